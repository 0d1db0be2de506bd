"""Redundant passages, and houses with one passage less or more."""

from elderways.houses import as_house, as_passage
from elderways.positions import position_count
from elderways.walks import loop_count, permutations_between


def is_redundant(house, index):
    """Test whether walks through older passages have the effect of a passage already."""
    start, end, permutation = house[2][index]
    return tuple(permutation) in permutations_between(house, start, end, index)


def redundant_passages(house):
    """Return the indices of all redundant passages in ascending order."""
    return [index for index in range(len(house[2])) if is_redundant(house, index)]


def without_passage(house, index):
    """Return the house without a passage."""
    rooms, size, passages = as_house(house)
    return rooms, size, passages[:index] + passages[index + 1:]


def with_passage(house, index, passage):
    """Return the house with one more passage, which gets this index."""
    rooms, size, passages = as_house(house)
    return rooms, size, passages[:index] + (as_passage(passage),) + passages[index:]


def widened(house, index, passage):
    """Return the indices of the passages that can reach more positions after such an insertion."""
    wider = with_passage(house, index, passage)
    found = []
    # The passages before the insertion have the same older passages as before.
    for younger in range(index, len(house[2])):
        # What a passage could reach before, it can still reach, so more positions are other ones.
        if position_count(wider, younger + 1) > position_count(house, younger):
            found.append(younger)
    return found


def loop_growth(house, room):
    """Return the pairs (index, loops) of the passages that increase the loop count of a room."""
    found = []
    before = loop_count(house, room, 0)
    for index in range(len(house[2])):
        loops = loop_count(house, room, index + 1)
        if loops > before:
            found.append((index, loops))
        before = loops
    return found
