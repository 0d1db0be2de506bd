"""Points 2, 3 and 7: the functions of walks.py."""

import itertools
import unittest

from elderways.walks import loop_count, permutations_between, shortest_walk
from tests import helpers
from tests.helpers import H, R

SAME = (0, 1, 2)


class ExamplesTest(unittest.TestCase):
    """The examples of point 7, as written."""

    def test_permutations_between(self):
        self.assertEqual(permutations_between(H, 1, 0, 1), [(2, 0, 1)])

    def test_shortest_walk(self):
        self.assertEqual(shortest_walk(H, 1, 0, (2, 0, 1), 1), [(0, "backward")])

    def test_loop_count(self):
        self.assertEqual(loop_count(H, 0, 2), 1)


class WalksTest(unittest.TestCase):
    def check_all(self, house, count):
        """Hold the three functions against the least numbers of steps, between all rooms."""
        every = list(itertools.permutations(range(house[1])))
        for start in range(house[0]):
            known = helpers.least_steps(house, start, count)
            for end in range(house[0]):
                found = sorted(permutation for room, permutation in known if room == end)
                self.assertEqual(permutations_between(house, start, end, count), found)
                if start == end:
                    self.assertEqual(loop_count(house, start, count), len(found))
                for permutation in every:
                    walk = shortest_walk(house, start, end, permutation, count)
                    if permutation in found:
                        self.check_walk(house, start, (end, permutation), count, walk)
                        self.assertEqual(len(walk), known[end, permutation])
                    else:
                        self.assertIsNone(walk)

    def check_walk(self, house, start, reached, count, walk):
        self.assertIs(type(walk), list)
        for step in walk:
            self.assertIs(type(step), tuple)
            self.assertIn(step[0], range(count))
        self.assertEqual(helpers.walked(house, start, walk), reached)

    def test_random_houses(self):
        for house in helpers.random_houses(1, 40):
            for count in range(len(house[2]) + 1):
                self.check_all(house, count)

    def test_four_items(self):
        for house in helpers.random_houses(2, 6, most_rooms=3, most_size=4, most_passages=4):
            self.check_all(house, len(house[2]))

    def test_count_zero(self):
        for house in (H, (1, 1, ()), (3, 2, ()), (1, 3, ((0, 0, R),))):
            same = tuple(range(house[1]))
            for start, end in itertools.product(range(house[0]), repeat=2):
                self.assertEqual(permutations_between(house, start, end, 0), [same] if start == end else [])
                self.assertEqual(shortest_walk(house, start, end, same, 0), [] if start == end else None)
                self.assertEqual(loop_count(house, start, 0), 1)

    def test_rooms_that_are_not_connected(self):
        self.assertEqual(permutations_between(H, 0, 2, 1), [])
        self.assertIsNone(shortest_walk(H, 0, 2, R, 1))
        self.assertEqual(permutations_between(H, 0, 2, 2), [R])
        self.assertEqual(shortest_walk(H, 0, 2, R, 2), [(0, "forward"), (1, "forward")])

    def test_permutation_that_no_walk_has(self):
        self.assertIsNone(shortest_walk(H, 0, 0, R, 2))
        self.assertIsNone(shortest_walk(H, 0, 1, SAME, 2))

    def test_empty_walk(self):
        for room in range(3):
            self.assertEqual(shortest_walk(H, room, room, SAME, 2), [])
        self.assertEqual(shortest_walk((1, 1, ((0, 0, (0,)),)), 0, 0, (0,), 1), [])

    def test_both_ends_in_one_room(self):
        loop = (1, 3, ((0, 0, R),))
        self.assertEqual(permutations_between(loop, 0, 0, 1), [SAME, R, (2, 0, 1)])
        self.assertEqual(shortest_walk(loop, 0, 0, R, 1), [(0, "forward")])
        self.assertEqual(shortest_walk(loop, 0, 0, (2, 0, 1), 1), [(0, "backward")])
        self.assertEqual(loop_count(loop, 0, 1), 3)

    def test_one_item(self):
        house = (4, 1, ((0, 1, (0,)), (1, 2, (0,)), (2, 0, (0,))))
        for start, end in itertools.product(range(3), repeat=2):
            self.assertEqual(permutations_between(house, start, end, 3), [(0,)])
            self.assertEqual(len(shortest_walk(house, start, end, (0,), 3)), int(start != end))
            self.assertEqual(loop_count(house, start, 3), 1)
        self.assertEqual(permutations_between(house, 0, 3, 3), [])

    def test_loops_through_several_rooms(self):
        house = (2, 3, ((0, 1, SAME), (0, 1, (1, 0, 2)), (1, 1, R)))
        self.assertEqual([loop_count(house, 0, count) for count in range(4)], [1, 1, 2, 6])
        self.assertEqual([loop_count(house, 1, count) for count in range(4)], [1, 1, 2, 6])
        self.assertEqual(permutations_between(house, 0, 1, 3), sorted(itertools.permutations(range(3))))
        self.assertEqual(permutations_between(house, 0, 0, 2), [SAME, (1, 0, 2)])

    def test_full_size(self):
        for house in helpers.full_houses(3, 2):
            for start in (0, 5):
                known = helpers.least_steps(house, start, 12)
                for end in range(8):
                    found = sorted(permutation for room, permutation in known if room == end)
                    self.assertEqual(permutations_between(house, start, end, 12), found)
                    for permutation in found:
                        walk = shortest_walk(house, start, end, permutation, 12)
                        self.check_walk(house, start, (end, permutation), 12, walk)
                        self.assertEqual(len(walk), known[end, permutation])

    def test_beyond_the_limits(self):
        turn, swap = (1, 2, 3, 4, 0), (1, 0, 2, 3, 4)
        chain = tuple((room, room + 1, turn) for room in range(9))
        house = (10, 5, chain + ((9, 0, swap), (4, 4, turn), (4, 4, swap)) * 2)
        self.assertEqual(loop_count(house, 7, 15), 120)
        self.assertEqual(permutations_between(house, 0, 9, 15), sorted(itertools.permutations(range(5))))
        walk = shortest_walk(house, 0, 9, (4, 3, 2, 1, 0), 15)
        self.check_walk(house, 0, (9, (4, 3, 2, 1, 0)), 15, walk)

    def test_conventions(self):
        for start, end, count in itertools.product(range(3), range(3), range(3)):
            helpers.check_conventions(self, permutations_between, house=H, start=start, end=end, count=count)
            for permutation in (SAME, R, (2, 0, 1)):
                helpers.check_conventions(
                    self, shortest_walk, house=H, start=start, end=end, permutation=permutation, count=count)
            helpers.check_conventions(self, loop_count, house=H, room=start, count=count)

    def test_results_are_tuples_in_new_lists(self):
        house = helpers.listed((2, 3, ((0, 1, R), (1, 0, (1, 0, 2)))))
        found = permutations_between(house, 0, 1, 2)
        self.assertEqual({type(permutation) for permutation in found}, {tuple})
        self.assertEqual({type(step) for step in shortest_walk(house, 0, 0, [0, 2, 1], 2)}, {tuple})
        found.clear()
        self.assertNotEqual(permutations_between(house, 0, 1, 2), [])


if __name__ == "__main__":
    unittest.main()
