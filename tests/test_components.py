"""Points 2, 3 and 6: the functions of components.py."""

import random
import unittest

from elderways.components import component_of, components
from tests import helpers
from tests.helpers import H


def component_by_hand(house, room, count):
    """Return the rooms that walks through the oldest passages reach."""
    return sorted({reached for reached, _ in helpers.least_steps(house, room, count)})


class ExamplesTest(unittest.TestCase):
    """The examples of point 6, as written."""

    def test_components(self):
        self.assertEqual(components(H, 1), [[0, 1], [2]])

    def test_component_of(self):
        self.assertEqual(component_of(H, 1, 1), [0, 1])


class ComponentsTest(unittest.TestCase):
    def test_every_count(self):
        self.assertEqual(components(H, 0), [[0], [1], [2]])
        self.assertEqual(components(H, 2), [[0, 1, 2]])
        self.assertEqual([component_of(H, 2, count) for count in range(3)], [[2], [2], [0, 1, 2]])

    def test_only_the_oldest_passages_count(self):
        house = (3, 1, ((1, 2, (0,)), (0, 1, (0,))))
        self.assertEqual(components(house, 1), [[0], [1, 2]])
        self.assertEqual(components(house, 2), [[0, 1, 2]])
        self.assertEqual([component_of(house, room, 1) for room in range(3)], [[0], [1, 2], [1, 2]])

    def test_order_of_the_first_rooms(self):
        house = (6, 1, ((5, 1, (0,)), (4, 2, (0,)), (3, 0, (0,))))
        self.assertEqual(components(house, 3), [[0, 3], [1, 5], [2, 4]])
        self.assertEqual(components(house, 2), [[0], [1, 5], [2, 4], [3]])

    def test_walks_go_both_ways(self):
        self.assertEqual(components((3, 1, ((1, 0, (0,)), (1, 2, (0,)))), 2), [[0, 1, 2]])
        self.assertEqual(components((3, 1, ((0, 1, (0,)), (2, 1, (0,)))), 2), [[0, 1, 2]])

    def test_long_chains_in_any_order(self):
        ends = [(room, room + 1) for room in range(7)]
        chance = random.Random(1)
        for _ in range(20):
            chance.shuffle(ends)
            house = (8, 1, tuple((*chance.sample(pair, 2), (0,)) for pair in ends))
            self.assertEqual(components(house, 7), [list(range(8))])
            for room in range(8):
                self.assertEqual(component_of(house, room, 7), list(range(8)))

    def test_no_passage(self):
        self.assertEqual(components((1, 1, ()), 0), [[0]])
        self.assertEqual(components((4, 2, ()), 0), [[0], [1], [2], [3]])
        self.assertEqual(component_of((1, 1, ()), 0, 0), [0])
        self.assertEqual(component_of((4, 2, ()), 2, 0), [2])

    def test_one_room_and_both_ends_in_one_room(self):
        house = (1, 2, ((0, 0, (1, 0)), (0, 0, (0, 1))))
        for count in range(3):
            self.assertEqual(components(house, count), [[0]])
            self.assertEqual(component_of(house, 0, count), [0])
        self.assertEqual(components((3, 1, ((1, 1, (0,)), (2, 1, (0,)))), 1), [[0], [1], [2]])
        self.assertEqual(components((3, 1, ((1, 1, (0,)), (2, 1, (0,)))), 2), [[0], [1, 2]])

    def test_random_houses(self):
        for house in helpers.random_houses(2, 60, most_rooms=6, most_size=1) + helpers.random_houses(3, 20):
            for count in range(len(house[2]) + 1):
                expected = [component_by_hand(house, room, count) for room in range(house[0])]
                self.assertEqual([component_of(house, room, count) for room in range(house[0])], expected)
                distinct = [found for room, found in enumerate(expected) if found[0] == room]
                self.assertEqual(components(house, count), distinct)

    def test_full_size(self):
        for house in helpers.full_houses(4, 3):
            for count in (0, 3, 12):
                found = components(house, count)
                self.assertEqual(sorted(room for rooms in found for room in rooms), list(range(8)))
                for rooms in found:
                    for room in rooms:
                        self.assertEqual(component_of(house, room, count), rooms)

    def test_beyond_the_limits(self):
        many = 40
        house = (many, 6, tuple((room, room + 2, tuple(range(6))) for room in range(many - 2)))
        self.assertEqual(components(house, many - 2), [list(range(0, many, 2)), list(range(1, many, 2))])

    def test_conventions(self):
        for count in range(3):
            helpers.check_conventions(self, components, house=H, count=count)
            for room in range(3):
                helpers.check_conventions(self, component_of, house=H, room=room, count=count)


if __name__ == "__main__":
    unittest.main()
