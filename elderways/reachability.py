"""Whether a house can become another one: a list of slides, or an obstruction."""

from elderways.components import component_of
from elderways.houses import as_house, check_same_shape, exits, is_fitting_passage, is_number_below
from elderways.positions import can_reach, positions, slides_to
from elderways.slides import SIDES, apply_slide, end_room, is_slide, moved


def first_unreachable(house, target, fixed):
    """Return the smallest index of a passage that cannot become what the target has, or None."""
    for index, wanted in enumerate(target[2]):
        if index in fixed:
            if house[2][index] != wanted:
                return index
        elif not can_reach(house, index, wanted):
            return index
    return None


def is_reachable(house, target, fixed=()):
    """Test whether house can become target without a slide of a fixed passage."""
    check_same_shape(house, target)
    return first_unreachable(as_house(house), as_house(target), fixed) is None


def obstruction_at(house, target, fixed, index):
    """Return an obstruction for a passage that cannot become what the target has."""
    if index in fixed:
        return "fixed", index
    for side in SIDES:
        rooms = component_of(house, end_room(house[2][index], side), index)
        if end_room(target[2][index], side) not in rooms:
            return "component", index, side, rooms
    return "positions", index, positions(house, index)


def slides_between(house, target):
    """Return a list of slides that turns house into a target that it can become."""
    slides = []
    # The youngest passages slide first, while the older ones are still where `house` has them.
    for index in reversed(range(len(target[2]))):
        slides.extend(slides_to(house, index, target[2][index]))
    return slides


def plan(house, target, fixed=()):
    """Return ("slides", list of slides) if the target is reachable, and an obstruction otherwise."""
    check_same_shape(house, target)
    current, goal = as_house(house), as_house(target)
    index = first_unreachable(current, goal, fixed)
    if index is not None:
        return obstruction_at(current, goal, fixed, index)
    return "slides", slides_between(current, goal)


def is_slide_path(house, target, fixed, value):
    """Test whether value is a list of slides, none of a fixed passage, that turns house into target."""
    check_same_shape(house, target)
    if not isinstance(value, list):
        return False
    current = as_house(house)
    for slide in value:
        if not is_slide(current, slide) or slide[0] in fixed:
            return False
        current = apply_slide(current, slide)
    return current == as_house(target)


def is_ascending(values):
    """Test whether each element of a list is greater than the one before it."""
    return all([values[place] < values[place + 1] for place in range(len(values) - 1)])


def bars_component(house, target, index, side, rooms):
    """Test whether a list of rooms holds an end of a passage, which the target has outside, back."""
    if side not in SIDES or not isinstance(rooms, list):
        return False
    if not all([is_number_below(house[0], room) for room in rooms]) or not is_ascending(rooms):
        return False
    if end_room(house[2][index], side) not in rooms or end_room(target[2][index], side) in rooms:
        return False
    return all([(start in rooms) == (end in rooms) for start, end, _ in house[2][:index]])


def bars_positions(house, target, index, passages):
    """Test whether a list of passages holds a passage, which the target has elsewhere, back."""
    rooms, size, own = house
    if not isinstance(passages, list):
        return False
    if not all([is_fitting_passage(rooms, size, passage) for passage in passages]) or not is_ascending(passages):
        return False
    known = {passage: True for passage in passages}
    if own[index] not in known or target[2][index] in known:
        return False
    ways = exits(house, index)
    for passage in passages:
        for side in SIDES:
            for _, leads, effect in ways[end_room(passage, side)]:
                if moved(passage, side, leads, effect) not in known:
                    return False
    return True


def is_obstruction(house, target, fixed, value):
    """Test whether value is an obstruction."""
    check_same_shape(house, target)
    current, goal = as_house(house), as_house(target)
    if not isinstance(value, tuple) or len(value) < 2 or not is_number_below(len(goal[2]), value[1]):
        return False
    kind, index, *rest = value
    if index in fixed:
        return kind == "fixed" and rest == [] and current[2][index] != goal[2][index]
    if kind == "component" and len(rest) == 2:
        return bars_component(current, goal, index, rest[0], rest[1])
    if kind == "positions" and len(rest) == 1:
        return bars_positions(current, goal, index, rest[0])
    return False
