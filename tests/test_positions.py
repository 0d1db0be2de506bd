"""Points 1, 2, 3 and 10: the functions of positions.py."""

import itertools
import random
import unittest

from elderways.components import component_of
from elderways.errors import PositionUnreachable
from elderways.houses import is_house
from elderways.positions import can_reach, position_count, positions, slides_to
from elderways.slides import apply_slides
from tests import helpers
from tests.helpers import H, R

SAME = (0, 1, 2)
# The third passage goes from the rooms 0 and 1, with a loop of order 3, to the rooms 2 and 3.
YARD = (4, 3, ((0, 1, R), (0, 0, R), (2, 3, (1, 0, 2)), (1, 2, SAME)))


class ExamplesTest(unittest.TestCase):
    """The examples of point 10, as written."""

    def test_positions(self):
        self.assertEqual(positions(H, 1), [(0, 2, (1, 2, 0)), (1, 2, (0, 1, 2))])

    def test_position_count(self):
        self.assertEqual(position_count(H, 1), 2)

    def test_can_reach(self):
        self.assertIs(can_reach(H, 1, (0, 2, (0, 1, 2))), False)

    def test_slides_to(self):
        self.assertEqual(slides_to(H, 1, (0, 2, R)), [(1, "start", 0, "backward")])


def sample_houses(seed, many):
    """Return small houses of many shapes."""
    return [H, YARD, (1, 1, ())] + helpers.random_houses(seed, many)


class PositionsTest(unittest.TestCase):
    def check_slides(self, house, index, passage, least):
        slides = slides_to(house, index, passage)
        self.assertIs(type(slides), list)
        for slide in slides:
            self.assertIs(type(slide), tuple)
            self.assertEqual(slide[0], index)
        new = helpers.slid_by_all(house, slides)
        self.assertEqual(new[2], house[2][:index] + (passage,) + house[2][index + 1:])
        self.assertEqual(len(slides), least)

    def check_unreachable(self, house, index, passage):
        self.assertIs(can_reach(house, index, passage), False)
        with self.assertRaises(PositionUnreachable) as caught:
            slides_to(house, index, passage)
        self.assertIs(type(caught.exception), PositionUnreachable)
        self.assertEqual(vars(caught.exception), {"index": index})

    def check_all(self, house, index):
        """Hold the four functions against a search over the slides of the passage alone."""
        known = helpers.least_slides_alone(house, index)
        self.assertEqual(positions(house, index), sorted(known))
        self.assertEqual(position_count(house, index), len(known))
        for passage in helpers.all_passages(house[0], house[1]):
            if passage in known:
                self.assertIs(can_reach(house, index, passage), True)
                self.check_slides(house, index, passage, known[passage])
            else:
                self.check_unreachable(house, index, passage)

    def test_random_houses(self):
        for house in sample_houses(1, 60):
            for index in range(len(house[2])):
                self.check_all(house, index)

    def test_four_items(self):
        for house in helpers.random_houses(2, 5, most_rooms=3, most_size=4, most_passages=4):
            for index in range(len(house[2])):
                self.check_all(house, index)

    def test_full_size(self):
        chance = random.Random(3)
        for house in helpers.full_houses(4, 2):
            for index in (0, 3, 7, 11):
                known = helpers.least_slides_alone(house, index)
                self.assertEqual(positions(house, index), sorted(known))
                self.assertEqual(position_count(house, index), len(known))
                for passage in chance.sample(sorted(known), min(len(known), 12)):
                    self.assertIs(can_reach(house, index, passage), True)
                    self.check_slides(house, index, passage, known[passage])
                for _ in range(12):
                    passage = helpers.random_passage(chance, 8, 4)
                    if passage not in known:
                        self.check_unreachable(house, index, passage)

    def test_all_positions_at_the_full_size(self):
        # Two loops make every permutation, and a chain connects all rooms.
        loops = ((0, 0, (1, 2, 3, 0)), (0, 0, (1, 0, 2, 3)))
        chain = tuple((room, room + 1, (0, 1, 2, 3)) for room in range(7))
        house = (8, 4, loops + chain + ((2, 5, (3, 1, 2, 0)),) * 3)
        for index in (9, 10, 11):
            self.assertEqual(positions(house, index), helpers.all_passages(8, 4))
            self.assertEqual(position_count(house, index), 8 * 8 * 24)
            far = (7, 7, (3, 2, 1, 0))
            self.check_slides(house, index, far, helpers.least_slides_alone(house, index)[far])

    def test_oldest_passage_stays(self):
        for house in sample_houses(5, 20) + helpers.full_houses(6, 2):
            if house[2]:
                self.assertEqual(positions(house, 0), [house[2][0]])
                self.assertEqual(position_count(house, 0), 1)
                self.assertEqual(slides_to(house, 0, house[2][0]), [])

    def test_no_slide_to_its_own_place(self):
        for house in sample_houses(7, 30) + helpers.full_houses(8, 1):
            for index, passage in enumerate(house[2]):
                self.assertIs(can_reach(house, index, passage), True)
                self.assertEqual(slides_to(house, index, passage), [])

    def test_one_item(self):
        house = (4, 1, ((0, 1, (0,)), (2, 3, (0,)), (1, 3, (0,))))
        ends = [(start, end, (0,)) for start in (0, 1) for end in (2, 3)]
        self.assertEqual(positions(house, 2), ends)
        self.assertEqual([position_count(house, index) for index in range(3)], [1, 1, 4])

    def test_one_room(self):
        house = (1, 3, ((0, 0, R), (0, 0, (1, 0, 2)), (0, 0, SAME)))
        self.assertEqual(positions(house, 1), [(0, 0, (0, 2, 1)), (0, 0, (1, 0, 2)), (0, 0, (2, 1, 0))])
        self.assertEqual(positions(house, 2), helpers.all_passages(1, 3))
        self.assertEqual([position_count(house, index) for index in range(3)], [1, 3, 6])

    def test_both_ends_in_one_component(self):
        house = (2, 3, ((0, 1, R), (0, 0, (1, 0, 2))))
        expected = [(0, 0, (1, 0, 2)), (0, 1, (2, 1, 0)), (1, 0, (2, 1, 0)), (1, 1, (0, 2, 1))]
        self.assertEqual(positions(house, 1), expected)
        self.assertEqual(position_count(house, 1), 4)
        self.assertEqual(len(slides_to(house, 1, (1, 1, (0, 2, 1)))), 2)

    def test_only_older_passages_count(self):
        house = (3, 3, ((0, 1, SAME), (1, 2, R), (1, 1, (1, 0, 2))))
        self.assertEqual(positions(house, 1), [(0, 2, R), (1, 2, R)])
        self.check_unreachable(house, 1, (2, 2, SAME))
        self.check_unreachable(house, 1, (1, 2, (2, 1, 0)))

    def test_passage_that_does_not_fit(self):
        for passage in ((3, 0, SAME), (0, 7, SAME), (0, 2, (0, 1)), (1, 2, (0, 1, 2, 3)), (1, 2, (0,))):
            self.check_unreachable(H, 1, passage)
            self.check_unreachable(H, 0, passage)

    def test_lists_in_place_of_tuples(self):
        house = helpers.listed(YARD)
        for passage in positions(YARD, 3):
            self.assertIs(can_reach(house, 3, helpers.listed(passage)), True)
            self.assertEqual(slides_to(house, 3, helpers.listed(passage)), slides_to(YARD, 3, passage))
        with self.assertRaises(PositionUnreachable) as caught:
            slides_to(house, 3, [0, 0, [0, 1, 2]])
        self.assertEqual(vars(caught.exception), {"index": 3})
        for passage in positions(house, 3):
            self.assertIs(is_house((4, 3, (passage,))), True)

    def test_conventions(self):
        for house, index in ((H, 0), (H, 1), (YARD, 3), (YARD, 1)):
            helpers.check_conventions(self, positions, house=house, index=index)
            helpers.check_conventions(self, position_count, house=house, index=index)
            for passage in positions(house, index)[-5:]:
                helpers.check_conventions(self, can_reach, house=house, index=index, passage=passage)
                helpers.check_conventions(self, slides_to, house=house, index=index, passage=passage)
        helpers.check_conventions(self, can_reach, house=H, index=1, passage=(0, 0, R))

    def test_beyond_the_limits(self):
        turn, swap = (1, 2, 3, 4, 0), (1, 0, 2, 3, 4)
        chain = tuple((room, room + 1, turn) for room in range(9))
        house = (10, 5, ((0, 0, turn), (0, 0, swap)) + chain + ((3, 4, swap),) * 3)
        self.assertEqual(position_count(house, 13), 100 * 120)
        self.assertEqual(len(positions(house, 13)), 100 * 120)
        new = apply_slides(house, slides_to(house, 13, (9, 9, (4, 3, 2, 1, 0))))
        self.assertEqual(new[2][13], (9, 9, (4, 3, 2, 1, 0)))


class CountTest(unittest.TestCase):
    """Point 10: the number of positions is a product of three numbers."""

    def test_product(self):
        for house in sample_houses(9, 40) + helpers.full_houses(10, 1):
            for index, (start, end, _) in enumerate(house[2]):
                starts, ends = component_of(house, start, index), component_of(house, end, index)
                found = positions(house, index)
                self.assertEqual({passage[0] for passage in found}, set(starts))
                self.assertEqual({passage[1] for passage in found}, set(ends))
                here = [passage for passage in found if passage[:2] == (start, end)]
                for pair in itertools.product(starts, ends):
                    self.assertEqual(len([passage for passage in found if passage[:2] == pair]), len(here))
                self.assertEqual(position_count(house, index), len(starts) * len(ends) * len(here))


class GuaranteesTest(unittest.TestCase):
    """Point 1, as far as it speaks of positions."""

    def test_slides_of_other_passages_add_none(self):
        searched = 0
        for house in sample_houses(11, 60):
            known = helpers.least_slides(house, most=600)
            if known is not None:
                searched += 1
                for index in range(len(house[2])):
                    self.assertEqual(positions(house, index), sorted({new[2][index] for new in known}))
        self.assertGreater(searched, 30)

    def test_positions_never_change(self):
        chance = random.Random(12)
        for house in sample_houses(13, 30) + helpers.full_houses(14, 2):
            _, new = helpers.random_slides(chance, house, 30)
            for index in range(len(house[2])):
                self.assertEqual(positions(new, index), positions(house, index))
                self.assertEqual(position_count(new, index), position_count(house, index))

    def test_positions_do_not_depend_on_younger_passages(self):
        for house in sample_houses(15, 20):
            for index in range(len(house[2])):
                older = (house[0], house[1], house[2][:index + 1])
                self.assertEqual(positions(older, index), positions(house, index))

    def test_positions_of_youngest_passages_part_all_passages(self):
        for rooms, size, passages in sample_houses(16, 25):
            every = helpers.all_passages(rooms, size)
            parts = {tuple(positions((rooms, size, passages + (youngest,)), len(passages))) for youngest in every}
            self.assertEqual(sorted(passage for part in parts for passage in part), every)


if __name__ == "__main__":
    unittest.main()
