"""The houses that a house can become: their number, and each one by its own number.

Passages do not restrict each other, so a reachable house is a choice of one position for each
passage. Their tuples ascend like numbers whose digits are the places of the chosen positions,
with the oldest passage as the highest digit.
"""

from elderways.errors import TargetUnreachable, TooMany, UnknownNumber
from elderways.houses import as_house, check_same_shape
from elderways.limits import MAX_LISTED
from elderways.positions import allowed_positions, position_count


def reachable_count(house, fixed=()):
    """Return the number of houses that a house can become."""
    count = 1
    for index in range(len(house[2])):
        if index not in fixed:
            count = count * position_count(house, index)
    return count


def reachable_at(house, number, fixed=()):
    """Return the house with this number among those that a house can become."""
    rooms, size, passages = house
    rest = number
    chosen = []
    for index in reversed(range(len(passages))):
        found = allowed_positions(house, index, fixed)
        rest, place = divmod(rest, len(found))
        chosen.append(found[place])
    # A number that is too large leaves a rest above 0, a negative one a rest below 0.
    if rest != 0:
        raise UnknownNumber(number)
    return rooms, size, tuple(chosen[::-1])


def number_of(house, target, fixed=()):
    """Return the number of the target among the houses that a house can become."""
    check_same_shape(house, target)
    number = 0
    for index, wanted in enumerate(as_house(target)[2]):
        found = allowed_positions(house, index, fixed)
        if wanted not in found:
            raise TargetUnreachable(index)
        number = number * len(found) + found.index(wanted)
    return number


def all_reachable(house, fixed=()):
    """Return the list of all houses that a house can become, in the order of their numbers."""
    count = reachable_count(house, fixed)
    if count > MAX_LISTED:
        raise TooMany(count)
    rooms, size, passages = house
    found = [()]
    for index in range(len(passages)):
        allowed = allowed_positions(house, index, fixed)
        found = [older + (passage,) for older in found for passage in allowed]
    return [(rooms, size, chosen) for chosen in found]
