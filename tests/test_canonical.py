"""Points 1, 2, 3, 9 and 12: the functions of canonical.py."""

import itertools
import random
import unittest

from elderways.canonical import are_equivalent, canonical, group_equivalent
from elderways.errors import ShapeMismatch
from elderways.houses import is_house
from elderways.positions import positions
from elderways.reachability import is_reachable, plan
from elderways.slides import apply_slides
from tests import helpers
from tests.helpers import H, R, T

SAME = (0, 1, 2)
YARD = (4, 3, ((1, 0, R), (0, 0, R), (3, 2, (1, 0, 2)), (1, 3, SAME)))
OTHERS = ((4, 3, H[2]), (2, 3, ()), (3, 2, ((0, 1, (1, 0)), (1, 2, (0, 1)))), (3, 3, H[2][:1]), (3, 3, H[2] * 2))


class ExamplesTest(unittest.TestCase):
    """The examples of point 12, as written."""

    def test_canonical(self):
        self.assertEqual(canonical(H), (3, 3, ((0, 1, (1, 2, 0)), (0, 2, (1, 2, 0)))))

    def test_are_equivalent(self):
        self.assertIs(are_equivalent(T, H), True)

    def test_group_equivalent(self):
        self.assertEqual(group_equivalent([H, T]), [[0, 1]])


def canonical_by_hand(house, fixed):
    """Return the house with the least position of each passage that is not fixed."""
    passages = list(house[2])
    for index in range(len(passages)):
        if index not in fixed:
            passages[index] = min(helpers.least_slides_alone(house, index))
    return house[0], house[1], tuple(passages)


def groups_by_hand(houses, fixed):
    """Return the indices of the houses that can become each other, by a search from each first one."""
    groups, left = [], list(range(len(houses)))
    while left:
        known = helpers.least_slides(houses[left[0]], fixed)
        groups.append([index for index in left if houses[index] in known])
        left = [index for index in left if houses[index] not in known]
    return groups


class CanonicalTest(unittest.TestCase):
    def test_random_houses(self):
        for house in [H, T, YARD, (1, 1, ())] + helpers.random_houses(1, 60):
            for fixed in helpers.some_fixed(house):
                self.assertEqual(canonical(house, fixed), canonical_by_hand(house, fixed))

    def test_full_size(self):
        for house in helpers.full_houses(2, 2):
            least = [min(positions(house, index)) for index in range(12)]
            for fixed in helpers.some_fixed(house):
                found = canonical(house, fixed)
                expected = [house[2][index] if index in fixed else least[index] for index in range(12)]
                self.assertEqual(found, (8, 4, tuple(expected)))
            self.assertEqual(least[6], min(helpers.least_slides_alone(house, 6)))

    def test_no_passage_one_room_one_item(self):
        for house in ((1, 1, ()), (3, 2, ()), (1, 1, ((0, 0, (0,)),) * 3), (1, 3, ((0, 0, R),))):
            self.assertEqual(canonical(house), house)
        loops = (1, 3, ((0, 0, R), (0, 0, (2, 0, 1)), (0, 0, (2, 1, 0))))
        self.assertEqual(canonical(loops), (1, 3, ((0, 0, R), (0, 0, SAME), (0, 0, (0, 2, 1)))))

    def test_fixed_passages_stay(self):
        for house in (H, T, YARD):
            self.assertEqual(canonical(house, tuple(range(len(house[2])))), house)
        self.assertEqual(canonical(H, (1,)), H)
        self.assertEqual(canonical(H, (0,)), T)
        self.assertEqual(canonical(YARD, (0, 1, 2))[2][:3], YARD[2][:3])

    def test_least_by_start_then_end_then_permutation(self):
        # The start can only reach 0 and 1, the end 2 and 3; the loop turns the permutation.
        self.assertEqual(canonical(YARD)[2][3], (0, 2, (0, 2, 1)))
        self.assertEqual(positions(YARD, 3)[0], (0, 2, (0, 2, 1)))

    def test_house_can_become_it(self):
        for house in [H, YARD] + helpers.random_houses(3, 30) + helpers.full_houses(4, 1):
            for fixed in helpers.some_fixed(house):
                found = canonical(house, fixed)
                self.assertIs(is_reachable(house, found, fixed), True)
                kind, slides = plan(house, found, fixed)
                self.assertEqual(kind, "slides")
                self.assertEqual(apply_slides(house, slides), found)
                self.assertEqual(canonical(found, fixed), found)

    def test_fixed_left_out_and_given(self):
        for house in (H, T, YARD):
            self.assertEqual(canonical(house), canonical(house, ()))
            self.assertEqual(canonical(house), canonical(fixed=[], house=house))
            self.assertEqual(canonical(house, [0]), canonical(house, fixed=(0,)))

    def test_result_is_a_house(self):
        for form in (helpers.listed, helpers.tupled, helpers.mixed):
            for house in [H, YARD] + helpers.random_houses(5, 20):
                for fixed in helpers.some_fixed(house):
                    self.assertIs(is_house(canonical(form(house), form(fixed))), True)

    def test_conventions(self):
        for house in (H, YARD, (1, 1, ())):
            helpers.check_conventions(self, canonical, house=house)
            for fixed in helpers.some_fixed(house):
                helpers.check_conventions(self, canonical, house=house, fixed=fixed)

    def test_beyond_the_limits(self):
        chain = tuple((room + 1, room, (1, 2, 3, 4, 0)) for room in range(9))
        loops = ((9, 9, (1, 0, 2, 3, 4)), (9, 9, (1, 2, 3, 4, 0)))
        house = (11, 5, loops + chain + ((9, 8, (4, 3, 2, 1, 0)),) * 4)
        self.assertEqual(canonical(house)[2][11:], ((0, 0, (0, 1, 2, 3, 4)),) * 4)


class EquivalentTest(unittest.TestCase):
    def test_all_small_houses(self):
        for rooms, size, many in ((1, 1, 0), (2, 2, 1), (1, 2, 3), (2, 1, 3), (2, 2, 2)):
            every = helpers.all_houses(rooms, size, many)
            for fixed in helpers.all_fixed(every[0]):
                group = {}
                for number, members in enumerate(groups_by_hand(every, fixed)):
                    group.update((index, number) for index in members)
                for first, second in itertools.product(range(len(every)), repeat=2):
                    expected = group[first] == group[second]
                    self.assertIs(are_equivalent(every[first], every[second], fixed), expected)

    def test_random_houses(self):
        chance = random.Random(6)
        for house in [H, YARD] + helpers.random_houses(7, 40) + helpers.full_houses(8, 1):
            for fixed in helpers.some_fixed(house):
                _, target = helpers.random_slides(chance, house, 8, fixed)
                self.assertIs(are_equivalent(house, target, fixed), True)
                self.assertIs(are_equivalent(target, house, fixed), True)
                other = helpers.random_house(chance, house[0], house[1], len(house[2]))
                self.assertIs(are_equivalent(house, other, fixed), is_reachable(house, other, fixed))

    def test_target_equal_to_the_house(self):
        for house in [(1, 1, ()), H, YARD] + helpers.random_houses(9, 20):
            for fixed in helpers.some_fixed(house):
                self.assertIs(are_equivalent(house, house, fixed), True)

    def test_fixed_passages(self):
        self.assertIs(are_equivalent(H, T, (0,)), True)
        self.assertIs(are_equivalent(H, T, (1,)), False)
        self.assertIs(are_equivalent(H, T, fixed=(0, 1)), False)
        self.assertIs(are_equivalent(target=H, house=H, fixed=(0, 1)), True)

    def test_houses_that_differ_in_shape(self):
        for other in OTHERS:
            for fixed in ((), (0,)):
                for house, target in ((H, other), (other, H)):
                    with self.assertRaises(ShapeMismatch) as caught:
                        are_equivalent(house, target, fixed)
                    self.assertIs(type(caught.exception), ShapeMismatch)
                    self.assertEqual(vars(caught.exception), {})

    def test_conventions(self):
        for house, target in ((H, T), (H, H), (H, (3, 3, ((0, 1, R), (2, 2, R))))):
            helpers.check_conventions(self, are_equivalent, house=house, target=target)
            for fixed in ((), (0,), (1,)):
                helpers.check_conventions(self, are_equivalent, house=house, target=target, fixed=fixed)


class GroupTest(unittest.TestCase):
    def test_no_house_and_one_house(self):
        self.assertEqual(group_equivalent([]), [])
        self.assertEqual(group_equivalent([], ()), [])
        self.assertEqual(group_equivalent([], (0,)), [])
        for house in (H, YARD, (1, 1, ())):
            self.assertEqual(group_equivalent([house]), [[0]])
            self.assertEqual(group_equivalent([house] * 4), [[0, 1, 2, 3]])

    def test_all_small_houses(self):
        chance = random.Random(10)
        for rooms, size, many in ((1, 1, 0), (2, 2, 1), (1, 2, 3), (2, 1, 3), (2, 2, 2)):
            every = helpers.all_houses(rooms, size, many)
            for fixed in helpers.all_fixed(every[0]):
                chance.shuffle(every)
                self.assertEqual(group_equivalent(every, fixed), groups_by_hand(every, fixed))

    def test_order_of_the_first_members(self):
        other, third = (3, 3, ((0, 1, R), (2, 2, R))), (3, 3, ((2, 2, R), (1, 2, SAME)))
        self.assertEqual(group_equivalent([other, H, third, T, other, H]), [[0, 4], [1, 3, 5], [2]])
        self.assertEqual(group_equivalent([H, T, other, third, T]), [[0, 1, 4], [2], [3]])
        self.assertEqual(group_equivalent([H, T, H, other], (1,)), [[0, 2], [1], [3]])
        self.assertEqual(group_equivalent([H, T, H, other], fixed=(0,)), [[0, 1, 2], [3]])

    def test_houses_of_the_full_size(self):
        chance = random.Random(11)
        first, second = helpers.full_houses(12, 2)
        houses = [helpers.random_slides(chance, house, 20)[1] for house in (first, second, first, second, first)]
        self.assertEqual(group_equivalent(houses), [[0, 2, 4], [1, 3]])

    def test_houses_that_differ_in_shape(self):
        for other in OTHERS:
            for houses in ([H, other], [other, H], [H, T, H, other], [H, other, T], [other, H, T]):
                for fixed in ((), (0,)):
                    with self.assertRaises(ShapeMismatch) as caught:
                        group_equivalent(houses, fixed)
                    self.assertIs(type(caught.exception), ShapeMismatch)
                    self.assertEqual(vars(caught.exception), {})

    def test_conventions(self):
        for houses in ([], [H], [H, T], [H, (3, 3, ((0, 1, R), (2, 2, R))), T]):
            helpers.check_conventions(self, group_equivalent, houses=houses)
            for fixed in ((), (0,), (1,)):
                helpers.check_conventions(self, group_equivalent, houses=houses, fixed=fixed)


class GuaranteesTest(unittest.TestCase):
    """Point 1: two houses can become each other if and only if their canonical forms are equal."""

    def test_canonical_form_never_changes(self):
        chance = random.Random(13)
        for house in [H, YARD] + helpers.random_houses(14, 40) + helpers.full_houses(15, 1):
            for fixed in helpers.some_fixed(house):
                _, target = helpers.random_slides(chance, house, 12, fixed)
                self.assertEqual(canonical(target, fixed), canonical(house, fixed))

    def test_equal_forms_and_reachability(self):
        chance = random.Random(16)
        for house in helpers.random_houses(17, 25, most_rooms=2, most_size=2, most_passages=3):
            for fixed in helpers.some_fixed(house):
                known = helpers.least_slides(house, fixed)
                for _ in range(15):
                    target = helpers.random_house(chance, house[0], house[1], len(house[2]))
                    self.assertEqual(canonical(house, fixed) == canonical(target, fixed), target in known)


if __name__ == "__main__":
    unittest.main()
