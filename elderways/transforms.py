"""New houses: other numbers for rooms and items, a passage turned round, two houses in one."""

from elderways.errors import ShapeMismatch
from elderways.houses import as_house, with_replaced
from elderways.permutations import compose, inverse


def rename_rooms(house, mapping):
    """Return the house in which room i has the number mapping[i]."""
    rooms, size, passages = as_house(house)
    renamed = [(mapping[start], mapping[end], own) for start, end, own in passages]
    return rooms, size, tuple(renamed)


def relabel(house, permutation):
    """Return the house in which the item at place i has the place permutation[i], in all permutations."""
    rooms, size, passages = as_house(house)
    back = inverse(permutation)
    relabeled = [(start, end, compose(compose(back, own), permutation)) for start, end, own in passages]
    return rooms, size, tuple(relabeled)


def flip(house, index):
    """Return the house with the ends of a passage exchanged and its permutation inverted."""
    current = as_house(house)
    start, end, permutation = current[2][index]
    return with_replaced(current, index, (end, start, inverse(permutation)))


def combine(first, second, indices):
    """Return one house of two, in which the passages of the first one have these indices."""
    rooms, size, passages = as_house(first)
    more_rooms, other_size, others = as_house(second)
    if size != other_size:
        raise ShapeMismatch()
    combined = [(start + rooms, end + rooms, own) for start, end, own in others]
    # As the indices ascend, no later insertion moves a passage that is in its place.
    for index, passage in zip(indices, passages):
        combined.insert(index, passage)
    return rooms + more_rooms, size, tuple(combined)
