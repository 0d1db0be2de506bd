"""Permutations: tuples whose element i is the place to which the item at place i moves."""

from math import lcm


def is_plain_int(value):
    """Test whether value is an int that is not a bool."""
    return isinstance(value, int) and not isinstance(value, bool)


def is_permutation(size, value):
    """Test whether value is a permutation of that size."""
    if not isinstance(value, tuple) or size < 1 or len(value) != size:
        return False
    # Only integers can be sorted together, and True would pass for 1.
    if not all([is_plain_int(item) for item in value]):
        return False
    return sorted(value) == list(range(size))


def identity(size):
    """Return the permutation that moves nothing."""
    return tuple(range(size))


def compose(first, second):
    """Return the permutation that applies first and then second."""
    return tuple([second[place] for place in first])


def inverse(permutation):
    """Return the permutation that moves every item back."""
    origins = [0] * len(permutation)
    for origin, place in enumerate(permutation):
        origins[place] = origin
    return tuple(origins)


def cycle_from(permutation, start):
    """Return the places that an item from place start visits until it comes back."""
    cycle = [start]
    place = permutation[start]
    while place != start:
        cycle.append(place)
        place = permutation[place]
    return cycle


def order(permutation):
    """Return the least positive number of applications that give the identity."""
    total = 1
    for start in range(len(permutation)):
        total = lcm(total, len(cycle_from(permutation, start)))
    return total


def power(permutation, exponent):
    """Return the result of that many applications; a negative exponent applies the inverse."""
    places = []
    for start in range(len(permutation)):
        cycle = cycle_from(permutation, start)
        # The exponent may be too large to apply the permutation that often.
        places.append(cycle[exponent % len(cycle)])
    return tuple(places)
