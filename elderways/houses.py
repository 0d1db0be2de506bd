"""Houses, the passages that fit them, and walks through their passages."""

from elderways.errors import BrokenWalk, ShapeMismatch, UnknownPassage
from elderways.permutations import compose, identity, inverse, is_permutation, is_plain_int

DIRECTIONS = ("backward", "forward")


def is_number_below(limit, value):
    """Test whether value is an integer from 0 to limit - 1."""
    return is_plain_int(value) and 0 <= value < limit


def is_fitting_passage(rooms, size, value):
    """Test whether value is a passage that fits a house with these rooms and this size."""
    if not isinstance(value, tuple) or len(value) != 3:
        return False
    start, end, permutation = value
    if not is_number_below(rooms, start) or not is_number_below(rooms, end):
        return False
    return is_permutation(size, permutation)


def is_house(value):
    """Test whether value is a house."""
    if not isinstance(value, tuple) or len(value) != 3:
        return False
    rooms, size, passages = value
    if not is_plain_int(rooms) or not is_plain_int(size) or not isinstance(passages, tuple):
        return False
    if rooms < 1 or size < 1:
        return False
    return all([is_fitting_passage(rooms, size, passage) for passage in passages])


def as_passage(passage):
    """Return a passage as tuples throughout, whatever lists it is given as."""
    start, end, permutation = passage
    return start, end, tuple(permutation)


def as_house(house):
    """Return a house as tuples throughout, whatever lists it is given as."""
    rooms, size, passages = house
    return rooms, size, tuple([(start, end, tuple(own)) for start, end, own in passages])


def with_replaced(house, index, passage):
    """Return a house of tuples with this passage in the place of another one."""
    rooms, size, passages = house
    return rooms, size, passages[:index] + (passage,) + passages[index + 1:]


def shape(house):
    """Return the number of rooms, the size and the number of passages."""
    rooms, size, passages = house
    return rooms, size, len(passages)


def check_same_shape(house, target):
    """Raise ShapeMismatch if the two houses differ in shape."""
    if shape(house) != shape(target):
        raise ShapeMismatch()


def check_passage(house, index):
    """Raise UnknownPassage if the house has no passage with this index."""
    if not 0 <= index < len(house[2]):
        raise UnknownPassage(index)


def crossing(passage, direction):
    """Return the room where a passage begins in a direction, the room where it leads, and its effect."""
    start, end, permutation = passage
    if direction == "forward":
        return start, end, permutation
    return end, start, inverse(permutation)


def exits(house, count):
    """Return, for each room, its ways out through the `count` oldest passages.

    A way out is a tuple: the step of a walk, the room where it leads, and its effect.
    """
    ways = [[] for _ in range(house[0])]
    for index, passage in enumerate(house[2][:count]):
        for direction in DIRECTIONS:
            begins, leads, effect = crossing(passage, direction)
            ways[begins].append(((index, direction), leads, effect))
    return ways


def follow(house, room, walk):
    """Walk from the given room and return the room reached and the composed permutation."""
    permutation = identity(house[1])
    for place, step in enumerate(walk):
        index, direction = step
        check_passage(house, index)
        begins, leads, effect = crossing(house[2][index], direction)
        if begins != room:
            raise BrokenWalk(place)
        room = leads
        permutation = compose(permutation, effect)
    return room, permutation


def is_step(value):
    """Test whether value has the form of a step of a walk."""
    if not isinstance(value, tuple) or len(value) != 2:
        return False
    return is_plain_int(value[0]) and value[1] in DIRECTIONS


def is_walk(house, start, end, permutation, value):
    """Test whether value is a walk from start to end with that permutation."""
    if not isinstance(value, list) or not all([is_step(step) for step in value]):
        return False
    try:
        reached = follow(house, start, value)
    except (UnknownPassage, BrokenWalk):
        return False
    return reached == (end, tuple(permutation))
