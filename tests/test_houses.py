"""Points 2, 3 and 5: the functions of houses.py."""

import itertools
import random
import unittest

from elderways.errors import BrokenWalk, UnknownPassage
from elderways.houses import follow, is_house, is_walk
from tests import helpers
from tests.helpers import DIRECTIONS, H, NUMBERS, OPPOSITE, R

LOOP = (1, 3, ((0, 0, R),))


class ExamplesTest(unittest.TestCase):
    """The examples of point 5, as written."""

    def test_is_house(self):
        self.assertIs(is_house((1, 1, ())), True)

    def test_follow(self):
        self.assertEqual(follow(H, 0, [(0, "forward"), (1, "forward")]), (2, (1, 2, 0)))

    def test_follow_raises(self):
        with self.assertRaises(BrokenWalk) as caught:
            follow(H, 0, [(1, "forward")])
        self.assertEqual(vars(caught.exception), {"step": 0})

    def test_is_walk(self):
        self.assertIs(is_walk(H, 0, 1, R, [(0, "forward")]), True)


class IsHouseTest(unittest.TestCase):
    def refused(self, *values):
        for value in values:
            with self.subTest(value=value):
                self.assertIs(is_house(value), False)

    def accepted(self, *values):
        for value in values:
            with self.subTest(value=value):
                self.assertIs(is_house(value), True)

    def test_houses(self):
        self.accepted(H, helpers.T, LOOP, (1, 1, ()), (8, 4, ()), (1, 1, ((0, 0, (0,)),)))
        self.accepted(*helpers.random_houses(1, 60), *helpers.full_houses(2, 3))

    def test_numbers_are_at_least_one(self):
        for number in (0, -1, -10 ** 12):
            self.refused((number, 1, ()), (1, number, ()), (number, number, ()), (number, 1, ((0, 0, (0,)),)))
        self.refused((1, 0, ((0, 0, ()),)), (0, 0, ()))

    def test_ends_are_rooms_of_the_house(self):
        for room in range(-3, 6):
            wanted = room in (0, 1)
            self.assertIs(is_house((2, 1, ((room, 0, (0,)),))), wanted)
            self.assertIs(is_house((2, 1, ((1, room, (0,)),))), wanted)
            self.assertIs(is_house((2, 1, ((0, 1, (0,)), (room, room, (0,))))), wanted)

    def test_permutations_have_the_size_of_the_house(self):
        for size, other in itertools.product(range(1, 5), range(1, 5)):
            house = (1, size, ((0, 0, tuple(range(other))),))
            self.assertIs(is_house(house), size == other)
        for permutation in ((0, 0), (1, 2), (-1, 0), ()):
            self.refused((1, 2, ((0, 0, permutation),)))

    def test_every_passage_counts(self):
        good, bad = (0, 1, R), (0, 3, R)
        for place in range(4):
            self.refused((3, 3, (good,) * place + (bad,) + (good,) * (3 - place)))
        self.accepted((3, 3, (good,) * 4))

    def test_values_of_every_kind(self):
        self.refused(*helpers.junk())
        for value in helpers.junk():
            parts = [(value, 3, ()), (3, value, ()), (3, 3, value), (3, 3, (value,)), (3, 3, (H[2][0], value))]
            parts += [(3, 3, ((value, 0, R),)), (3, 3, ((0, value, R),)), (3, 3, ((0, 0, value),))]
            for house in parts:
                self.assertIs(is_house(house), helpers.is_house_by_hand(house), house)

    def test_spoiled_houses(self):
        for house in (H, LOOP, (1, 1, ()), (2, 2, ((0, 1, (0, 1)), (1, 1, (1, 0))))):
            self.refused(*helpers.spoiled(house))

    def test_varied_houses(self):
        for house in (H, LOOP, (1, 1, ()), (2, 2, ((0, 1, (0, 1)), (1, 1, (1, 0))))):
            for value in helpers.varied(house):
                self.assertIs(is_house(value), helpers.is_house_by_hand(value), value)

    def test_booleans_are_no_integers(self):
        self.refused((True, 1, ()), (1, True, ()), (True, True, ()))
        self.refused((2, 2, ((False, 1, (0, 1)),)), (2, 2, ((0, True, (0, 1)),)), (2, 2, ((0, 1, (False, True)),)))

    def test_lists_are_no_tuples(self):
        self.refused([1, 1, ()], (1, 1, []), [1, 1, []], helpers.listed(H), list(H), (3, 3, list(H[2])))
        self.refused((3, 3, ([0, 1, R], (1, 2, R))), (3, 3, ((0, 1, [1, 2, 0]),)))

    def test_missing_and_superfluous_elements(self):
        self.refused((), (1,), (1, 1), (1, 1, (), ()), (1, 1, (), None), (1, 1, ((),)), (1, 1, ((0, 0),)))
        self.refused((1, 1, ((0, (0,)),)), (1, 1, ((0, 0, (0,), 0),)), (1, 1, (0, 0, (0,))), ((1, 1, ()),))

    def test_size_of_the_value_is_not_limited(self):
        many = 3000
        self.accepted((10 ** 12, 1, ()), (1, 10 ** 12, ()), (10 ** 12, 1, ((10 ** 12 - 1, 5, (0,)),)))
        self.accepted((2, 1, ((0, 1, (0,)),) * many), (1, many, ((0, 0, tuple(range(many))),)))
        self.refused((2, 1, ((0, 1, (0,)),) * many + ((0, 2, (0,)),)), (1, 10 ** 12, ((0, 0, (0,)),)))

    def test_conventions(self):
        for value in (H, helpers.listed(H), (0, 1, ()), None):
            helpers.check_conventions(self, is_house, value=value)
        self.assertIs(is_house(value=H), True)


class FollowTest(unittest.TestCase):
    def test_empty_walk_stays(self):
        for house in [(1, 1, ()), H, LOOP] + helpers.random_houses(3, 20):
            for room in range(house[0]):
                self.assertEqual(follow(house, room, []), (room, tuple(range(house[1]))))

    def test_single_steps(self):
        self.assertEqual(follow(H, 0, [(0, "forward")]), (1, R))
        self.assertEqual(follow(H, 1, [(0, "backward")]), (0, (2, 0, 1)))
        self.assertEqual(follow(H, 1, [(1, "forward")]), (2, (0, 1, 2)))
        self.assertEqual(follow(H, 2, [(1, "backward")]), (1, (0, 1, 2)))

    def test_passage_with_both_ends_in_one_room(self):
        self.assertEqual(follow(LOOP, 0, [(0, "forward")]), (0, R))
        self.assertEqual(follow(LOOP, 0, [(0, "backward")]), (0, (2, 0, 1)))
        self.assertEqual(follow(LOOP, 0, [(0, "forward")] * 2), (0, (2, 0, 1)))
        self.assertEqual(follow(LOOP, 0, [(0, "forward")] * 3), (0, (0, 1, 2)))

    def test_order_of_the_steps(self):
        house = (1, 3, ((0, 0, R), (0, 0, (1, 0, 2))))
        self.assertEqual(follow(house, 0, [(0, "forward"), (1, "forward")]), (0, (0, 2, 1)))
        self.assertEqual(follow(house, 0, [(1, "forward"), (0, "forward")]), (0, (2, 1, 0)))

    def test_random_walks(self):
        chance = random.Random(4)
        for house in helpers.random_houses(5, 60) + helpers.full_houses(6, 5):
            for room in range(house[0]):
                walk = helpers.random_walk(chance, house, room, 12)
                self.assertEqual(follow(house, room, walk), helpers.walked(house, room, walk))

    def test_two_hundred_steps(self):
        walk = [(0, "forward"), (1, "forward"), (1, "backward"), (0, "backward")] * 50
        self.assertEqual(follow(H, 0, walk), (0, (0, 1, 2)))
        self.assertEqual(follow(LOOP, 0, [(0, "forward")] * 200), (0, (2, 0, 1)))
        for house in helpers.full_houses(7, 5):
            walk = helpers.random_walk(random.Random(8), house, 0, 200)
            self.assertEqual(follow(house, 0, walk), helpers.walked(house, 0, walk))

    def raised(self, error, fields, house, room, walk):
        with self.subTest(walk=walk):
            with self.assertRaises(error) as caught:
                follow(house, room, walk)
            self.assertIs(type(caught.exception), error)
            self.assertEqual(vars(caught.exception), fields)

    def test_unknown_passage(self):
        for direction in DIRECTIONS:
            for index in (-1, -2, -3, 2, 3, 100, 10 ** 12, -10 ** 12):
                self.raised(UnknownPassage, {"index": index}, H, 0, [(index, direction)])
                self.raised(UnknownPassage, {"index": index}, H, 0, [(0, "forward"), (index, direction)])
            for index in NUMBERS:
                self.raised(UnknownPassage, {"index": index}, (1, 1, ()), 0, [(index, direction)])

    def test_broken_walk(self):
        self.raised(BrokenWalk, {"step": 0}, H, 1, [(0, "forward")])
        self.raised(BrokenWalk, {"step": 0}, H, 0, [(0, "backward")])
        self.raised(BrokenWalk, {"step": 1}, H, 0, [(0, "forward"), (0, "forward")])
        self.raised(BrokenWalk, {"step": 2}, H, 0, [(0, "forward"), (1, "forward"), (0, "backward")])
        self.raised(BrokenWalk, {"step": 199}, H, 0, [(0, "forward"), (0, "backward")] * 99 + [(0, "forward")] * 2)

    def test_first_faulty_step_decides(self):
        self.raised(BrokenWalk, {"step": 0}, H, 0, [(1, "forward"), (7, "forward")])
        self.raised(UnknownPassage, {"index": 7}, H, 0, [(7, "forward"), (1, "forward")])
        self.raised(UnknownPassage, {"index": -1}, H, 0, [(-1, "forward"), (2, "forward")])
        self.raised(BrokenWalk, {"step": 1}, H, 0, [(0, "forward"), (0, "forward"), (0, "forward"), (9, "forward")])
        # There is no passage to tell where the step begins.
        self.raised(UnknownPassage, {"index": 2}, H, 2, [(2, "backward")])

    def test_conventions(self):
        for walk in ([], [(0, "forward"), (1, "forward")], [(0, "forward"), (0, "backward")]):
            helpers.check_conventions(self, follow, house=H, room=0, walk=walk)
        self.raised(UnknownPassage, {"index": 5}, helpers.listed(H), 0, [[0, "forward"], [5, "forward"]])
        self.raised(BrokenWalk, {"step": 1}, helpers.listed(H), 0, ([0, "forward"], [0, "forward"]))

    def test_beyond_the_limits(self):
        chain = tuple((room, room + 1, (1, 2, 3, 4, 5, 0)) for room in range(11))
        house = (12, 6, chain + ((11, 0, (0, 1, 2, 3, 4, 5)),) * 3)
        walk = [(index, "forward") for index in range(12)] * 30
        self.assertEqual(follow(house, 0, walk), helpers.walked(house, 0, walk))


class IsWalkTest(unittest.TestCase):
    def refused(self, house, start, end, permutation, *values):
        for value in values:
            with self.subTest(value=value):
                self.assertIs(is_walk(house, start, end, permutation, value), False)

    def test_random_walks(self):
        chance = random.Random(9)
        for house in helpers.random_houses(10, 60) + helpers.full_houses(11, 4):
            for room in range(house[0]):
                walk = helpers.random_walk(chance, house, room, chance.randrange(9))
                end, permutation = helpers.walked(house, room, walk)
                self.assertIs(is_walk(house, room, end, permutation, walk), True)
                for other in range(house[0]):
                    self.assertIs(is_walk(house, room, other, permutation, walk), other == end)
                for other in itertools.permutations(range(house[1])):
                    self.assertIs(is_walk(house, room, end, other, walk), other == permutation)

    def test_empty_walk(self):
        for house in ((1, 1, ()), H, LOOP):
            same = tuple(range(house[1]))
            self.assertIs(is_walk(house, 0, 0, same, []), True)
            self.refused(house, 0, 0, same, (), None, 0, False, "", [[]], [()], ([],))
        self.refused(H, 0, 1, (0, 1, 2), [])
        self.refused(H, 0, 0, R, [])

    def test_wrong_start(self):
        self.refused(H, 1, 1, R, [(0, "forward")])
        self.refused(H, 2, 1, R, [(0, "forward")])

    def test_faulty_steps(self):
        self.refused(H, 0, 1, R, [(1, "forward")], [(0, "backward")], [(0, "forward"), (0, "forward")])
        for index in NUMBERS[1:]:
            self.refused(H, 0, 1, R, [(index, "forward")])
        for index in (-1, -2, 2, 10 ** 12):
            self.refused(H, 0, 1, R, [(0, "forward"), (index, "forward")], [(0, "forward"), (index, "backward")])

    def test_two_hundred_steps_and_more(self):
        for times in (50, 2000):
            walk = [(0, "forward"), (1, "forward"), (1, "backward"), (0, "backward")] * times
            self.assertIs(is_walk(H, 0, 0, (0, 1, 2), walk), True)
            self.refused(H, 0, 0, (0, 1, 2), walk + [(1, "forward")], walk[1:], tuple(walk), walk + [(0, "forward")])

    def test_values_of_every_kind(self):
        values = [value for value in helpers.junk() if value != []]
        self.refused(H, 0, 0, (0, 1, 2), *values)
        self.refused(LOOP, 0, 0, R, *values)
        for value in values:
            for walk in ([value], [(0, value)], [(value, "forward")], [(0, "forward"), value], [value, (0, "forward")]):
                self.assertIs(is_walk(LOOP, 0, 0, R, walk), helpers.is_walk_by_hand(LOOP, 0, 0, R, walk), walk)

    def test_spoiled_walks(self):
        self.refused(H, 0, 1, R, *helpers.spoiled([(0, "forward")]))
        self.refused(H, 0, 2, R, *helpers.spoiled([(0, "forward"), (1, "forward")]))
        self.refused(H, 0, 0, (0, 1, 2), *helpers.spoiled([]))
        self.refused(H, 2, 0, (2, 0, 1), *helpers.spoiled([(1, "backward"), (0, "backward")]))

    def test_varied_walks(self):
        for walk in ([(0, "forward")], [(0, "forward"), (1, "forward")], [(0, "forward"), (0, "backward")]):
            end, permutation = helpers.walked(H, 0, walk)
            for value in helpers.varied(walk):
                expected = helpers.is_walk_by_hand(H, 0, end, permutation, value)
                self.assertIs(is_walk(H, 0, end, permutation, value), expected, value)
        # Around a loop many other walks arrive in the same room.
        for value in helpers.varied([(0, "forward")] * 3):
            expected = helpers.is_walk_by_hand(LOOP, 0, 0, (0, 1, 2), value)
            self.assertIs(is_walk(LOOP, 0, 0, (0, 1, 2), value), expected, value)

    def test_booleans_are_no_integers(self):
        self.refused(H, 0, 1, R, [(False, "forward")])
        self.refused(H, 1, 2, (0, 1, 2), [(True, "forward")])

    def test_lists_and_tuples(self):
        self.refused(H, 0, 1, R, ((0, "forward"),), [[0, "forward"]], ([0, "forward"],), (0, "forward"))

    def test_missing_and_superfluous_elements(self):
        self.refused(H, 0, 1, R, [(0,)], [("forward",)], [()], [(0, "forward", 0)], [(0, "forward", None)])
        self.refused(H, 0, 1, R, [0, "forward"], [("forward", 0)], [((0, "forward"),)], [[(0, "forward")]])

    def test_other_strings(self):
        for word in ("", "Forward", "FORWARD", "forwards", "forward ", "back", "start", "end", "0"):
            self.refused(H, 0, 1, R, [(0, word)])
            self.refused(H, 1, 0, (2, 0, 1), [(0, word)])
        self.refused(H, 0, 1, R, "forward", ["forward"], [("0", "forward")])

    def test_conventions(self):
        for value in ([(0, "forward")], [[0, "forward"]], ((0, "forward"),), [], [(5, "forward")]):
            helpers.check_conventions(self, is_walk, house=H, start=0, end=1, permutation=R, value=value)


class GuaranteesTest(unittest.TestCase):
    """Point 1: the other way, a passage applies the inverse."""

    def test_walks_back(self):
        chance = random.Random(12)
        for house in helpers.random_houses(13, 40):
            walk = helpers.random_walk(chance, house, 0, 7)
            room, permutation = follow(house, 0, walk)
            back = [(index, OPPOSITE[direction]) for index, direction in reversed(walk)]
            self.assertEqual(follow(house, room, back), (0, helpers.undoing(permutation)))
            self.assertEqual(follow(house, 0, walk + back), (0, tuple(range(house[1]))))


if __name__ == "__main__":
    unittest.main()
