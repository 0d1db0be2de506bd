"""The permutations of walks through the `count` oldest passages, and shortest walks."""

from elderways.houses import exits
from elderways.permutations import compose, identity


def walk_tree(house, start, count):
    """Return how shortest walks from start end, by the room and the permutation that they reach.

    A key is a pair (room, permutation). Its value is None for the empty walk, and otherwise
    the pair of the key before the last step and that step. Keys with shorter walks come first.
    """
    ways = exits(house, count)
    root = (start, identity(house[1]))
    tree = {root: None}
    level = [root]
    while level:
        following = []
        for here in level:
            for step, leads, effect in ways[here[0]]:
                reached = (leads, compose(here[1], effect))
                if reached not in tree:
                    tree[reached] = (here, step)
                    following.append(reached)
        level = following
    return tree


def walk_to(tree, reached):
    """Return the walk that reaches a key of a walk tree."""
    steps = []
    while tree[reached] is not None:
        reached, step = tree[reached]
        steps.append(step)
    return steps[::-1]


def permutations_between(house, start, end, count):
    """Return the permutations of all walks from start to end, in ascending order."""
    tree = walk_tree(house, start, count)
    return sorted([permutation for room, permutation in tree if room == end])


def shortest_walk(house, start, end, permutation, count):
    """Return a walk with that permutation and the least number of steps, or None."""
    tree = walk_tree(house, start, count)
    goal = (end, tuple(permutation))
    if goal not in tree:
        return None
    return walk_to(tree, goal)


def loop_count(house, room, count):
    """Return the number of permutations of walks from the room back to it."""
    return len(permutations_between(house, room, room, count))
