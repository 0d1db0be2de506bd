"""Points 1, 2, 3, 9 and 13: the functions of counting.py."""

import itertools
import random
import unittest

from elderways.canonical import canonical
from elderways.counting import all_reachable, number_of, reachable_at, reachable_count
from elderways.errors import ShapeMismatch, TargetUnreachable, TooMany, UnknownNumber
from elderways.houses import is_house
from elderways.limits import MAX_LISTED
from elderways.positions import positions
from elderways.reachability import is_reachable
from elderways.slides import apply_slide, possible_slides
from tests import helpers
from tests.helpers import H, R, T

SAME = (0, 1, 2)
TURN, SWAP = (1, 2, 3, 0), (1, 0, 2, 3)
YARD = (4, 3, ((1, 0, R), (0, 0, R), (3, 2, (1, 0, 2)), (1, 3, SAME)))
OTHERS = ((4, 3, H[2]), (2, 3, ()), (3, 2, ((0, 1, (1, 0)), (1, 2, (0, 1)))), (3, 3, H[2][:1]), (3, 3, H[2] * 2))


class ExamplesTest(unittest.TestCase):
    """The examples of point 13, as written."""

    def test_reachable_count(self):
        self.assertEqual(reachable_count(H), 2)

    def test_reachable_at(self):
        self.assertEqual(reachable_at(H, 0), (3, 3, ((0, 1, (1, 2, 0)), (0, 2, (1, 2, 0)))))

    def test_number_of(self):
        self.assertEqual(number_of(H, H), 1)

    def test_all_reachable(self):
        first = (3, 3, ((0, 1, (1, 2, 0)), (0, 2, (1, 2, 0))))
        self.assertEqual(all_reachable(H), [first, (3, 3, ((0, 1, (1, 2, 0)), (1, 2, (0, 1, 2))))])


class CountingTest(unittest.TestCase):
    def check_target(self, house, target, fixed, expected):
        """Hold number_of against the list of all reachable houses."""
        if target in expected:
            self.assertEqual(number_of(house, target, fixed), expected.index(target))
            return
        reached = [{found[2][index] for found in expected} for index in range(len(house[2]))]
        wrong = [index for index, passage in enumerate(target[2]) if passage not in reached[index]]
        helpers.check_raised(self, TargetUnreachable, {"index": wrong[0]}, number_of, house, target, fixed)

    def check_all(self, house, fixed, expected):
        """Hold the four functions against the list of all reachable houses."""
        count = len(expected)
        self.assertEqual(reachable_count(house, fixed), count)
        for number, found in enumerate(expected):
            self.assertEqual(reachable_at(house, number, fixed), found)
            self.check_target(house, found, fixed, expected)
        for number in (-1, -2, -count, -count - 1, count, count + 1, 2 * count, 10 ** 12, -10 ** 12):
            helpers.check_raised(self, UnknownNumber, {"number": number}, reachable_at, house, number, fixed)
        if count <= 600:
            self.assertEqual(all_reachable(house, fixed), expected)
        else:
            helpers.check_raised(self, TooMany, {"count": count}, all_reachable, house, fixed)

    def test_random_houses(self):
        listed, refused = 0, 0
        for house in [H, T, YARD, (1, 1, ()), (3, 2, ())] + helpers.random_houses(1, 60):
            for fixed in helpers.some_fixed(house):
                expected = helpers.reachable_by_hand(house, fixed, 900)
                if expected is not None:
                    self.check_all(house, fixed, expected)
                    listed += len(expected) <= 600
                    refused += len(expected) > 600
        self.assertGreater(listed, 100)
        self.assertGreater(refused, 0)

    def test_all_small_houses(self):
        for rooms, size, many in ((1, 1, 0), (2, 2, 1), (1, 2, 3), (2, 1, 3)):
            every = helpers.all_houses(rooms, size, many)
            for house in every[::3]:
                for fixed in helpers.all_fixed(house):
                    expected = helpers.reachable_by_hand(house, fixed)
                    self.check_all(house, fixed, expected)
                    for target in every[::2]:
                        self.check_target(house, target, fixed, expected)

    def test_every_target(self):
        for house in helpers.random_houses(2, 12, most_rooms=2, most_size=2, most_passages=2):
            for fixed in helpers.all_fixed(house):
                expected = helpers.reachable_by_hand(house, fixed)
                for target in helpers.all_houses(house[0], house[1], len(house[2])):
                    self.check_target(house, target, fixed, expected)

    def test_no_passage_one_room_one_item(self):
        for house in ((1, 1, ()), (8, 4, ()), (1, 1, ((0, 0, (0,)),) * 12), (1, 3, ((0, 0, R),))):
            self.check_all(house, (), [house])
        corridor = (2, 1, ((0, 1, (0,)), (1, 1, (0,))))
        pairs = [(0, 0), (0, 1), (1, 0), (1, 1)]
        self.check_all(corridor, (), [(2, 1, ((0, 1, (0,)), (*pair, (0,)))) for pair in pairs])
        self.check_all(corridor, (1,), [corridor])

    def test_loops(self):
        loops = (1, 3, ((0, 0, R), (0, 0, (1, 0, 2))))
        found = [(1, 3, ((0, 0, R), (0, 0, odd))) for odd in ((0, 2, 1), (1, 0, 2), (2, 1, 0))]
        self.check_all(loops, (), found)
        self.assertEqual(number_of(loops, loops), 1)

    def test_the_oldest_passage_counts_most(self):
        house = (3, 1, ((0, 1, (0,)), (2, 0, (0,)), (2, 2, (0,))))
        found = [tuple(passage[:2] for passage in new[2]) for new in all_reachable(house)]
        second, third = [(2, 0), (2, 1)], list(itertools.product(range(3), repeat=2))
        self.assertEqual(found, [((0, 1), one, two) for one in second for two in third])
        self.assertEqual(reachable_at(house, 9)[2][1:], ((2, 1, (0,)), (0, 0, (0,))))
        self.assertEqual(number_of(house, house), 8)

    def test_fixed_passages(self):
        self.assertEqual([reachable_count(H, fixed) for fixed in ((), (0,), (1,), (0, 1))], [2, 2, 1, 1])
        self.assertEqual(all_reachable(H, (1,)), [H])
        self.assertEqual(all_reachable(T, (1,)), [T])
        self.assertEqual(reachable_at(T, 0, (0, 1)), T)
        helpers.check_raised(self, UnknownNumber, {"number": 1}, reachable_at, H, 1, (1,))
        helpers.check_raised(self, TargetUnreachable, {"index": 1}, number_of, H, T, (1,))
        self.assertEqual(number_of(H, T, (0,)), 0)
        # Fixed passages do not slide, but other ones may slide along them.
        self.assertEqual(reachable_count(YARD, (0, 1, 2)), 2 * 2 * 3)

    def test_the_smallest_index_of_an_unreachable_passage(self):
        two = (3, 3, ((1, 1, R), (2, 2, R)))
        helpers.check_raised(self, TargetUnreachable, {"index": 0}, number_of, H, two)
        helpers.check_raised(self, TargetUnreachable, {"index": 1}, number_of, H, (3, 3, (H[2][0], (2, 2, R))))
        helpers.check_raised(self, TargetUnreachable, {"index": 1}, number_of, H, (3, 3, (H[2][0], (0, 2, SAME))), (0,))
        helpers.check_raised(self, TargetUnreachable, {"index": 0}, number_of, H, two, (0, 1))
        helpers.check_raised(self, TargetUnreachable, {"index": 1}, number_of, H, T, (0, 1))

    def test_houses_that_differ_in_shape(self):
        for other in OTHERS:
            for fixed in ((), (0,)):
                for house, target in ((H, other), (other, H)):
                    helpers.check_raised(self, ShapeMismatch, {}, number_of, house, target, fixed)
                    helpers.check_raised(self, ShapeMismatch, {}, number_of, helpers.listed(house), target, fixed)

    def test_fixed_left_out_and_given(self):
        for house in (H, T, YARD):
            self.assertEqual(reachable_count(house), reachable_count(house=house, fixed=[]))
            self.assertEqual(reachable_at(house, 0), reachable_at(fixed=(), number=0, house=house))
            self.assertEqual(number_of(house, house), number_of(target=house, house=house, fixed=()))
            self.assertEqual(all_reachable(house), all_reachable(fixed=[], house=house))

    def test_conventions(self):
        for house in (H, YARD, (1, 1, ())):
            for fixed in helpers.some_fixed(house):
                helpers.check_conventions(self, reachable_count, house=house, fixed=fixed)
                helpers.check_conventions(self, reachable_at, house=house, number=0, fixed=fixed)
                helpers.check_conventions(self, number_of, house=house, target=house, fixed=fixed)
                helpers.check_conventions(self, all_reachable, house=house, fixed=fixed)
            helpers.check_conventions(self, all_reachable, house=house)

    def test_results_are_houses(self):
        for form in (helpers.listed, helpers.tupled, helpers.mixed):
            for house in (H, YARD, (1, 1, ())):
                for fixed in helpers.some_fixed(house):
                    for found in all_reachable(form(house), form(fixed)):
                        self.assertIs(is_house(found), True)
                    self.assertIs(is_house(reachable_at(form(house), 0, form(fixed))), True)

    def test_a_changed_result_changes_no_later_answer(self):
        for house in (H, YARD):
            expected = all_reachable(house)
            found = all_reachable(house)
            found.clear()
            found.append("changed")
            self.assertEqual(all_reachable(house), expected)
            self.assertEqual(reachable_count(house), len(expected))


class ListLimitTest(unittest.TestCase):
    """MAX_LISTED: 600 houses are listed, more are not."""

    def listed(self, house, fixed, count):
        found = all_reachable(house, fixed)
        self.assertEqual(len(found), count)
        self.assertEqual(reachable_count(house, fixed), count)
        self.assertEqual(sorted(set(found), key=lambda new: new[2]), found)
        self.assertEqual([number_of(house, new, fixed) for new in found[::37]], list(range(count))[::37])

    def refused(self, house, fixed, count):
        self.assertEqual(reachable_count(house, fixed), count)
        helpers.check_raised(self, TooMany, {"count": count}, all_reachable, house, fixed)
        self.assertEqual(number_of(house, reachable_at(house, count - 1, fixed), fixed), count - 1)
        helpers.check_raised(self, UnknownNumber, {"number": count}, reachable_at, house, count, fixed)

    def test_within_the_limits(self):
        house, others = helpers.grid(5, (TURN, SWAP))
        self.listed(house, others, 600)
        house, others = helpers.grid(7, (TURN, (3, 0, 1, 2)))
        self.listed(house, others, 196)
        house, others = helpers.grid(5)
        self.listed(house, others, 25)
        self.refused((5, 1, house[2] + house[2][-1:]), others, 625)
        house, others = helpers.grid(8, (TURN, SWAP))
        self.refused(house, others, 1536)

    def test_exactly_six_hundred_and_one_more(self):
        self.assertEqual(MAX_LISTED, 600)
        for size in (600, 601):
            cycle = (*range(1, size), 0)
            house = (1, size, ((0, 0, cycle), (0, 0, tuple(range(size)))))
            if size <= 600:
                self.listed(house, (), size)
            else:
                self.refused(house, (), size)


class FullSizeTest(unittest.TestCase):
    """Houses of 8 rooms, 4 items and 12 passages, with counts that are too large to list."""

    def test_product_of_the_positions(self):
        for house in helpers.full_houses(3, 2):
            parts = [positions(house, index) for index in range(12)]
            for fixed in helpers.some_fixed(house):
                count = 1
                for index, part in enumerate(parts):
                    count *= 1 if index in fixed else len(part)
                self.assertEqual(reachable_count(house, fixed), count)
                if count > 600:
                    helpers.check_raised(self, TooMany, {"count": count}, all_reachable, house, fixed)

    def test_largest_count(self):
        house, _ = helpers.grid(8, (TURN, SWAP))
        house = (8, 4, house[2] + house[2][-1:] * 2)
        self.assertEqual(len(house[2]), 12)
        alone = [len(positions(house, index)) for index in range(12)]
        self.assertEqual(alone[-3:], [1536] * 3)
        self.assertGreater(reachable_count(house), 1536 ** 3)
        self.assertEqual(reachable_at(house, reachable_count(house) - 1)[2][-3:], ((7, 7, (3, 2, 1, 0)),) * 3)

    def test_numbers(self):
        chance = random.Random(4)
        for house in helpers.full_houses(5, 2):
            for fixed in ((), (0, 5, 11)):
                count = reachable_count(house, fixed)
                self.assertGreater(count, 10 ** 9)
                self.assertEqual(reachable_at(house, 0, fixed), canonical(house, fixed))
                last = [part[-1] for part in (positions(house, index) for index in range(12))]
                expected = tuple(house[2][index] if index in fixed else last[index] for index in range(12))
                self.assertEqual(reachable_at(house, count - 1, fixed)[2], expected)
                numbers = sorted({0, 1, count - 2, count - 1, *(chance.randrange(count) for _ in range(6))})
                found = [reachable_at(house, number, fixed) for number in numbers]
                self.assertEqual([number_of(house, new, fixed) for new in found], numbers)
                self.assertEqual(sorted(found, key=lambda new: new[2]), found)
                for new in found:
                    self.assertIs(is_reachable(house, new, fixed), True)
                for number in (-1, count, count + 1, -count):
                    helpers.check_raised(self, UnknownNumber, {"number": number}, reachable_at, house, number, fixed)

    def test_beyond_the_limits(self):
        house = (12, 6, ((0, 11, (1, 2, 3, 4, 5, 0)),) * 15)
        count = reachable_count(house)
        self.assertEqual(count, 4 ** 14)
        self.assertEqual(number_of(house, reachable_at(house, count // 3)), count // 3)


class GuaranteesTest(unittest.TestCase):
    """Point 1, as far as counting answers for it."""

    def test_counts_are_products(self):
        for house in helpers.random_houses(6, 60):
            alone = []
            for index in range(len(house[2])):
                others = tuple(other for other in range(len(house[2])) if other != index)
                alone.append(reachable_count(house, others))
            count = 1
            for many in alone:
                count *= many
            self.assertEqual(reachable_count(house), count)

    def test_every_combination_occurs(self):
        for house in helpers.random_houses(7, 40):
            if reachable_count(house) <= 600:
                parts = [positions(house, index) for index in range(len(house[2]))]
                self.assertEqual([found[2] for found in all_reachable(house)], list(itertools.product(*parts)))

    def test_slides_change_no_count_and_no_number(self):
        chance = random.Random(8)
        for house in [H, YARD] + helpers.random_houses(9, 30):
            for slide in possible_slides(house)[:6]:
                new = apply_slide(house, slide)
                count = reachable_count(house)
                self.assertEqual(reachable_count(new), count)
                number = chance.randrange(count)
                self.assertEqual(reachable_at(new, number), reachable_at(house, number))
                self.assertEqual(number_of(new, house), number_of(house, house))


if __name__ == "__main__":
    unittest.main()
