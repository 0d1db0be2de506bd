"""Slides: moving one end of a passage along an older passage."""

from elderways.errors import NotOlder, UnknownPassage, WrongRoom
from elderways.houses import DIRECTIONS, as_house, check_passage, crossing, is_number_below, with_replaced
from elderways.permutations import compose, inverse, is_plain_int

SIDES = ("end", "start")


def end_room(passage, side):
    """Return the room of one end of a passage."""
    if side == "start":
        return passage[0]
    return passage[1]


def is_slide(house, value):
    """Test whether value is a slide that the house allows."""
    if not isinstance(value, tuple) or len(value) != 4:
        return False
    index, side, older, direction = value
    if side not in SIDES or direction not in DIRECTIONS:
        return False
    if not is_plain_int(index) or not is_number_below(index, older) or index >= len(house[2]):
        return False
    begins = crossing(house[2][older], direction)[0]
    return end_room(house[2][index], side) == begins


def possible_slides(house):
    """Return all slides in ascending order."""
    # For each room, the ways out of it through the passages before the one at hand. They come
    # in ascending order, so the slides need not be sorted.
    ways = [[] for _ in range(house[0])]
    found = []
    for index, (start, end, _) in enumerate(house[2]):
        found.extend([(index, "end", older, direction) for older, direction in ways[end]])
        found.extend([(index, "start", older, direction) for older, direction in ways[start]])
        ways[end].append((index, "backward"))
        ways[start].append((index, "forward"))
    return found


def moved(passage, side, leads, effect):
    """Return what a passage becomes when this end slides to a room through something of that effect."""
    start, end, permutation = passage
    if side == "start":
        return leads, end, compose(inverse(effect), permutation)
    return start, leads, compose(permutation, effect)


def slid(house, slide):
    """Return a house of tuples after a slide."""
    index, side, older, direction = slide
    check_passage(house, index)
    check_passage(house, older)
    if older >= index:
        raise NotOlder(older)
    passage = house[2][index]
    begins, leads, effect = crossing(house[2][older], direction)
    if end_room(passage, side) != begins:
        raise WrongRoom(begins)
    return with_replaced(house, index, moved(passage, side, leads, effect))


def apply_slide(house, slide):
    """Return the house after a slide."""
    return slid(as_house(house), slide)


def apply_slides(house, slides):
    """Return the house after a list of slides, in order."""
    current = as_house(house)
    for slide in slides:
        current = slid(current, slide)
    return current


def reverse_slide(slide):
    """Return the slide that undoes a slide."""
    index, side, older, direction = slide
    if direction == "forward":
        return index, side, older, "backward"
    return index, side, older, "forward"


def first_invalid(house, slides, fixed):
    """Return the place of the first slide that raises an error or moves a fixed passage, or None."""
    current = as_house(house)
    for place, slide in enumerate(slides):
        if slide[0] in fixed:
            return place
        try:
            current = slid(current, slide)
        except (UnknownPassage, NotOlder, WrongRoom):
            return place
    return None
