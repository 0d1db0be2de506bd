"""Positions: the passages that a passage can become by slides.

Sliding the start along a walk puts the inverse of the walk's permutation before that of the
passage; sliding the end along a walk puts the walk's permutation behind it. So the walks through
the older passages tell all positions, and no slide has to be tried.
"""

from elderways.errors import PositionUnreachable
from elderways.houses import as_passage
from elderways.permutations import compose, inverse
from elderways.walks import walk_to, walk_tree


def walks_by_room(house, index, room):
    """Return the permutations of walks from a room through passages older than `index`, by the rooms reached."""
    found = {}
    for reached, permutation in walk_tree(house, room, index):
        found.setdefault(reached, []).append(permutation)
    return found


def products(loops, permutation, other_loops):
    """Return the different products of a loop, the permutation and another loop."""
    found = {}
    for before in loops:
        first = compose(before, permutation)
        # The products that begin with `first` are known already, or all of them are new.
        if first not in found:
            for after in other_loops:
                found[compose(first, after)] = True
    return list(found)


def reach(house, index):
    """Return what a passage can reach.

    This is a tuple: for each room that its start can reach, the permutation of one walk that
    leads there; the same for its end; and the permutations that it can have where it is.
    """
    start, end, permutation = house[2][index]
    starts = walks_by_room(house, index, start)
    ends = walks_by_room(house, index, end)
    here = products(starts[start], permutation, ends[end])
    before = {room: found[0] for room, found in starts.items()}
    after = {room: found[0] for room, found in ends.items()}
    return before, after, here


def permutations_at(reached, start, end):
    """Return the permutations that a passage can have between two rooms that it can reach, ascending."""
    before, after, here = reached
    back = inverse(before[start])
    return sorted([compose(compose(back, permutation), after[end]) for permutation in here])


def positions(house, index):
    """Return all positions that a passage can reach, in ascending order."""
    reached = reach(house, index)
    found = []
    for start in sorted(reached[0]):
        for end in sorted(reached[1]):
            found.extend([(start, end, permutation) for permutation in permutations_at(reached, start, end)])
    return found


def allowed_positions(house, index, fixed):
    """Return the positions of a passage in ascending order, for a fixed passage only its own."""
    if index in fixed:
        return [as_passage(house[2][index])]
    return positions(house, index)


def least_position(house, index):
    """Return the least position that a passage can reach."""
    reached = reach(house, index)
    start, end = min(reached[0]), min(reached[1])
    return start, end, permutations_at(reached, start, end)[0]


def position_count(house, index):
    """Return the number of positions that a passage can reach."""
    before, after, here = reach(house, index)
    return len(before) * len(after) * len(here)


def shortest_slides(house, index, passage):
    """Return a shortest list of slides of one passage alone to a position, or None."""
    start, end, permutation = house[2][index]
    new_start, new_end, wanted = passage
    if len(wanted) != len(permutation):
        return None
    starts = walk_tree(house, start, index)
    ends = walk_tree(house, end, index)
    back = inverse(permutation)
    best = None
    for room, before in starts:
        # The walk of the start determines the permutation that the walk of the end must have.
        goal = (new_end, compose(compose(back, before), wanted))
        if room == new_start and goal in ends:
            slides = [(index, "start", *step) for step in walk_to(starts, (room, before))]
            slides.extend([(index, "end", *step) for step in walk_to(ends, goal)])
            if best is None or len(slides) < len(best):
                best = slides
    return best


def can_reach(house, index, passage):
    """Test whether a passage is one of the positions of passage `index`."""
    return shortest_slides(house, index, passage) is not None


def slides_to(house, index, passage):
    """Return a shortest list of slides of passage `index` alone that brings it to a position."""
    slides = shortest_slides(house, index, passage)
    if slides is None:
        raise PositionUnreachable(index)
    return slides
