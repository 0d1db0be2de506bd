"""The canonical form: one house for all houses that can become each other."""

from elderways.houses import as_house, check_same_shape
from elderways.positions import least_position


def canonical(house, fixed=()):
    """Return the house with the least position of each passage that is not fixed."""
    rooms, size, passages = as_house(house)
    found = []
    for index, passage in enumerate(passages):
        if index in fixed:
            found.append(passage)
        else:
            found.append(least_position(house, index))
    return rooms, size, tuple(found)


def are_equivalent(house, target, fixed=()):
    """Test whether each of two houses can become the other."""
    check_same_shape(house, target)
    return canonical(house, fixed) == canonical(target, fixed)


def group_equivalent(houses, fixed=()):
    """Return the ascending lists of indices of equivalent houses, in the order of their first members."""
    for house in houses:
        check_same_shape(houses[0], house)
    groups = {}
    for index, house in enumerate(houses):
        groups.setdefault(canonical(house, fixed), []).append(index)
    return list(groups.values())
