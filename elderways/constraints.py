"""Reachable houses that meet constraints on single passages."""

from elderways.errors import NoMatch
from elderways.positions import allowed_positions


def meets(passage, constraint):
    """Test whether a passage has the values that a constraint requires of it."""
    _, start, end, permutation = constraint
    if start is not None and start != passage[0]:
        return False
    if end is not None and end != passage[1]:
        return False
    return permutation is None or tuple(permutation) == passage[2]


def matching_positions(house, constraints, fixed):
    """Return, for each passage, the positions that meet the constraints, in ascending order."""
    found = [allowed_positions(house, index, fixed) for index in range(len(house[2]))]
    for constraint in constraints:
        index = constraint[0]
        found[index] = [passage for passage in found[index] if meets(passage, constraint)]
    return found


def matching_count(house, constraints, fixed=()):
    """Return the number of reachable houses that meet all constraints."""
    count = 1
    for found in matching_positions(house, constraints, fixed):
        count = count * len(found)
    return count


def first_match(house, constraints, fixed=()):
    """Return the reachable house with the least number that meets all constraints."""
    rooms, size, _ = house
    chosen = []
    for index, found in enumerate(matching_positions(house, constraints, fixed)):
        if found == []:
            raise NoMatch(index)
        # Passages do not restrict each other, so the least positions make the least house.
        chosen.append(found[0])
    return rooms, size, tuple(chosen)


def options(house, index, fixed=()):
    """Return the rooms that the start of a passage can reach, those of its end, and its permutations."""
    found = allowed_positions(house, index, fixed)
    starts = sorted({passage[0] for passage in found})
    ends = sorted({passage[1] for passage in found})
    return starts, ends, sorted({passage[2] for passage in found})
