"""Points 1, 2, 3, 9 and 11: the functions of reachability.py."""

import itertools
import random
import unittest

from elderways.errors import ShapeMismatch
from elderways.positions import positions
from elderways.reachability import is_obstruction, is_reachable, is_slide_path, plan
from elderways.slides import apply_slides, first_invalid
from tests import helpers
from tests.helpers import H, R, S, T

SAME = (0, 1, 2)
BACK = (1, "start", 0, "forward")
# The fourth passage leads from the rooms 0 and 1, with a loop of order 3, to the rooms 2 and 3.
YARD = (5, 3, ((0, 1, R), (0, 0, R), (2, 3, (1, 0, 2)), (1, 2, SAME)))
# It cannot get to room 4, nor to an odd permutation between rooms 1 and 2, nor to room 0 at its end.
NO_START = (5, 3, YARD[2][:3] + ((4, 2, SAME),))
NO_END = (5, 3, YARD[2][:3] + ((1, 0, SAME),))
NO_TURN = (5, 3, YARD[2][:3] + ((1, 2, (1, 0, 2)),))
OTHERS = ((4, 3, H[2]), (2, 3, ()), (3, 2, ((0, 1, (1, 0)), (1, 2, (0, 1)))), (3, 3, H[2][:1]), (3, 3, H[2] * 2))


class ExamplesTest(unittest.TestCase):
    """The examples of point 11, as written."""

    def test_is_reachable(self):
        self.assertIs(is_reachable(H, T), True)

    def test_plan(self):
        self.assertEqual(plan(H, T, (1,)), ("fixed", 1))

    def test_is_slide_path(self):
        self.assertIs(is_slide_path(H, T, (), [S]), True)

    def test_is_obstruction(self):
        self.assertIs(is_obstruction(H, T, (1,), ("fixed", 1)), True)


def check_plan(test, house, target, fixed, reachable):
    """Check the answers for two houses by the definitions of point 11."""
    test.assertIs(is_reachable(house, target, fixed), reachable)
    answer = plan(house, target, fixed)
    test.assertIs(type(answer), tuple)
    if reachable:
        test.assertEqual((len(answer), answer[0]), (2, "slides"))
        test.assertIs(helpers.is_slide_path_by_hand(house, target, fixed, answer[1]), True)
        test.assertIs(is_slide_path(house, target, fixed, answer[1]), True)
    else:
        test.assertIs(helpers.is_obstruction_by_hand(house, target, fixed, answer), True)
        test.assertIs(is_obstruction(house, target, fixed, answer), True)


class ReachableTest(unittest.TestCase):
    def check_shape(self, rooms, size, many):
        """Hold the answers for all houses of a shape, and all fixed passages, against a search."""
        every = helpers.all_houses(rooms, size, many)
        for house in every:
            for fixed in helpers.all_fixed(house):
                known = helpers.least_slides(house, fixed)
                for target in every:
                    check_plan(self, house, target, fixed, target in known)

    def test_all_small_houses(self):
        for rooms, size, many in ((1, 1, 0), (3, 2, 0), (2, 2, 1), (1, 2, 3), (3, 1, 2), (2, 1, 3)):
            with self.subTest(rooms=rooms, size=size, many=many):
                self.check_shape(rooms, size, many)

    def test_all_houses_with_two_rooms_two_items_and_two_passages(self):
        self.check_shape(2, 2, 2)

    def test_random_houses(self):
        chance = random.Random(1)
        for house in [H, YARD] + helpers.random_houses(2, 50):
            for fixed in ((), (0,), tuple(range(1, len(house[2]), 2)), tuple(range(len(house[2])))):
                fixed = tuple(index for index in fixed if index < len(house[2]))
                known = helpers.least_slides(house, fixed, most=400)
                if known is None:
                    continue
                for target in chance.sample(sorted(known), min(len(known), 10)):
                    check_plan(self, house, target, fixed, True)
                for _ in range(10):
                    target = helpers.random_house(chance, house[0], house[1], len(house[2]))
                    check_plan(self, house, target, fixed, target in known)

    def test_targets_that_differ_in_one_passage(self):
        for house in helpers.random_houses(3, 25, most_passages=4):
            reachable = [set(positions(house, index)) for index in range(len(house[2]))]
            for index in range(len(house[2])):
                for passage in helpers.all_passages(house[0], house[1]):
                    target = (house[0], house[1], house[2][:index] + (passage,) + house[2][index + 1:])
                    check_plan(self, house, target, (), passage in reachable[index])
                    check_plan(self, house, target, (index,), passage == house[2][index])

    def test_full_size(self):
        chance = random.Random(4)
        for house in helpers.full_houses(5, 3):
            for fixed in ((), (4, 7, 11), tuple(range(12))):
                _, target = helpers.random_slides(chance, house, 60, fixed)
                check_plan(self, house, target, fixed, True)
                check_plan(self, target, house, fixed, True)
                for index in (0, 1, 6, 11):
                    passage = helpers.random_passage(chance, 8, 4)
                    changed = (8, 4, target[2][:index] + (passage,) + target[2][index + 1:])
                    expected = passage in positions(house, index) and index not in fixed or passage == house[2][index]
                    check_plan(self, house, changed, fixed, expected)

    def test_target_equal_to_the_house(self):
        for house in [H, YARD, (1, 1, ())] + helpers.random_houses(6, 20) + helpers.full_houses(7, 2):
            for fixed in ((), tuple(range(len(house[2])))):
                check_plan(self, house, house, fixed, True)
                self.assertIs(is_slide_path(house, house, fixed, []), True)

    def test_no_passage_one_room_one_item(self):
        self.assertEqual(plan((1, 1, ()), (1, 1, ())), ("slides", []))
        self.assertEqual(plan((3, 2, ()), (3, 2, ())), ("slides", []))
        one = (1, 1, ((0, 0, (0,)),) * 3)
        check_plan(self, one, one, (), True)
        check_plan(self, (2, 1, ((0, 1, (0,)),) * 2), (2, 1, ((0, 1, (0,)), (1, 0, (0,)))), (), True)
        check_plan(self, (2, 1, ((0, 1, (0,)),) * 2), (2, 1, ((1, 0, (0,)), (0, 1, (0,)))), (), False)
        loops = [(1, 3, ((0, 0, R), (0, 0, permutation))) for permutation in itertools.permutations(range(3))]
        for house, target in itertools.product(loops, loops):
            check_plan(self, house, target, (), target in helpers.least_slides(house))

    def test_older_passages_slide_as_well(self):
        house = (3, 1, ((0, 1, (0,)), (0, 2, (0,)), (1, 0, (0,))))
        target = (3, 1, ((0, 1, (0,)), (1, 2, (0,)), (2, 2, (0,))))
        check_plan(self, house, target, (), True)
        check_plan(self, house, target, (0,), True)
        check_plan(self, house, target, (1,), False)
        check_plan(self, house, target, (2,), False)

    def test_along_fixed_passages(self):
        check_plan(self, H, T, (0,), True)
        self.assertEqual(plan(H, T, (0,)), ("slides", [S]))
        self.assertEqual(plan(H, T, (0, 1)), ("fixed", 1))

    def test_each_obstruction(self):
        self.assertEqual(plan(YARD, NO_START, (3,)), ("fixed", 3))
        self.assertEqual(plan(YARD, NO_START), ("component", 3, "start", [0, 1]))
        self.assertEqual(plan(YARD, NO_END), ("component", 3, "end", [2, 3]))
        # Both ends are in place, so that no rooms can tell the two apart.
        self.assertEqual(plan(YARD, NO_TURN)[:2], ("positions", 3))
        for target in (NO_START, NO_END, NO_TURN):
            for fixed in helpers.all_fixed(YARD):
                check_plan(self, YARD, target, fixed, False)

    def test_fixed_left_out_and_given(self):
        for target in (H, T, (3, 3, ((0, 1, R), (2, 2, R)))):
            self.assertEqual(is_reachable(H, target), is_reachable(H, target, ()))
            self.assertEqual(plan(H, target), plan(H, target, fixed=[]))
            self.assertEqual(plan(H, target), plan(target=target, house=H))
            self.assertEqual(is_reachable(H, target, fixed=(1,)), target == H)

    def test_conventions(self):
        for house, target in ((H, T), (H, H), (YARD, NO_START), (YARD, NO_TURN), (YARD, NO_END)):
            for fixed in ((), (0,), (1,)):
                helpers.check_conventions(self, is_reachable, house=house, target=target, fixed=fixed)
                helpers.check_conventions(self, plan, house=house, target=target, fixed=fixed)
            helpers.check_conventions(self, is_reachable, house=house, target=target)
            helpers.check_conventions(self, plan, house=house, target=target)

    def test_plans_can_be_used_elsewhere(self):
        chance = random.Random(8)
        for house in helpers.full_houses(9, 2):
            _, target = helpers.random_slides(chance, house, 200)
            slides = plan(house, target)[1]
            self.assertEqual(apply_slides(house, slides), target)
            self.assertIsNone(first_invalid(house, slides, ()))

    def test_beyond_the_limits(self):
        chain = tuple((room, room + 1, (1, 2, 3, 4, 0)) for room in range(9))
        house = (11, 5, chain + ((0, 0, (1, 0, 2, 3, 4)),) * 6)
        _, target = helpers.random_slides(random.Random(10), house, 60)
        check_plan(self, house, target, (), True)
        changed = (11, 5, house[2][:14] + ((10, 0, (0, 1, 2, 3, 4)),))
        check_plan(self, house, changed, (), False)


class ShapeTest(unittest.TestCase):
    def test_houses_that_differ_in_shape(self):
        for other in OTHERS:
            for house, target in ((H, other), (other, H)):
                calls = [lambda: is_reachable(house, target), lambda: plan(house, target)]
                calls += [lambda: is_reachable(house, target, (0,)), lambda: plan(house, target, (0, 1))]
                for value in ([], [S], ("fixed", 0), None, "", [None], ("component", 0, "start", [0])):
                    calls.append(lambda value=value: is_slide_path(house, target, (), value))
                    calls.append(lambda value=value: is_obstruction(house, target, (), value))
                    calls.append(lambda value=value: is_slide_path(house, target, (0,), value))
                    calls.append(lambda value=value: is_obstruction(house, target, (0,), value))
                for call in calls:
                    with self.assertRaises(ShapeMismatch) as caught:
                        call()
                    self.assertIs(type(caught.exception), ShapeMismatch)
                    self.assertEqual(vars(caught.exception), {})

    def test_lists_in_place_of_tuples_have_the_same_shape(self):
        self.assertIs(is_reachable(helpers.listed(H), T), True)
        self.assertIs(is_slide_path(H, helpers.listed(T), [], [S]), True)
        self.assertIs(is_obstruction(helpers.listed(H), helpers.listed(T), [1], ("fixed", 1)), True)


class SlidePathTest(unittest.TestCase):
    def refused(self, house, target, fixed, *values):
        for value in values:
            with self.subTest(value=value):
                self.assertIs(is_slide_path(house, target, fixed, value), False)

    def test_paths(self):
        chance = random.Random(11)
        for house in [H, YARD] + helpers.random_houses(12, 40) + helpers.full_houses(13, 2):
            for fixed in ((), (1,)):
                fixed = tuple(index for index in fixed if index < len(house[2]))
                slides, target = helpers.random_slides(chance, house, 8, fixed)
                self.assertIs(is_slide_path(house, target, fixed, slides), True)
                for place in range(len(slides)):
                    shorter = slides[:place] + slides[place + 1:]
                    expected = helpers.is_slide_path_by_hand(house, target, fixed, shorter)
                    self.assertIs(is_slide_path(house, target, fixed, shorter), expected)
                if slides:
                    self.refused(house, target, (slides[0][0],), slides)

    def test_another_target(self):
        self.refused(H, H, (), [S])
        self.refused(H, T, (), [], [S, BACK])
        self.assertIs(is_slide_path(H, H, (), [S, BACK]), True)
        self.refused(H, (3, 3, ((0, 1, R), (0, 2, SAME))), (), [S])
        self.refused(H, (3, 3, ((0, 1, SAME), (0, 2, R))), (), [S])

    def test_fixed_passages(self):
        self.assertIs(is_slide_path(H, T, (0,), [S]), True)
        self.refused(H, T, (1,), [S])
        self.refused(H, T, (0, 1), [S])
        self.refused(H, H, (1,), [S, BACK])
        self.assertIs(is_slide_path(H, H, (0, 1), []), True)

    def test_slides_that_are_not_valid(self):
        self.refused(H, T, (), [S, S], [BACK, S], [(5, "start", 0, "backward")], [(1, "start", -1, "backward")])
        self.refused(H, T, (), [(0, "start", 1, "backward"), S], [(1, "start", 1, "backward"), S])
        self.refused(H, T, (), [(1, "end", 0, "backward"), S], [S, (1, "end", 0, "forward")])
        self.refused(H, T, (), [(-1, "start", 0, "backward")], [(10 ** 12, "start", 0, "backward")])

    def test_two_hundred_slides_and_more(self):
        for times in (100, 1000):
            slides = [S, BACK] * times
            self.assertIs(is_slide_path(H, H, (), slides), True)
            self.refused(H, H, (), slides[:-1], slides + [BACK], tuple(slides), slides + [None])
            self.assertIs(is_slide_path(H, T, (), slides + [S]), True)

    def test_values_of_every_kind(self):
        values = [value for value in helpers.junk() if value != []]
        self.refused(H, T, (), *values)
        self.refused(H, H, (), *values)
        self.refused((1, 1, ()), (1, 1, ()), (), *values)
        for value in values:
            self.refused(H, T, (), [value], [S, value], [value, S], [S, [value]], [S, (value,)])
            for place in range(4):
                changed = [S[:place] + (value,) + S[place + 1:]]
                self.assertIs(is_slide_path(H, T, (), changed), helpers.is_slide_path_by_hand(H, T, (), changed))

    def test_spoiled_paths(self):
        self.refused(H, T, (), *helpers.spoiled([S]))
        self.refused(H, T, (0,), *helpers.spoiled([S, BACK, S]))
        self.refused(H, H, (), *helpers.spoiled([]), *helpers.spoiled([S, BACK]))

    def test_varied_paths(self):
        loops = (1, 3, ((0, 0, R), (0, 0, R)))
        cases = [(H, T, [S]), (H, H, [S, BACK]), (loops, loops, [(1, "end", 0, "forward"), (1, "start", 0, "forward")])]
        for house, target, slides in cases:
            self.assertIs(is_slide_path(house, target, (0,), slides), True)
            for value in helpers.varied(slides):
                for fixed in ((), (0,), (1,)):
                    expected = helpers.is_slide_path_by_hand(house, target, fixed, value)
                    self.assertIs(is_slide_path(house, target, fixed, value), expected, value)

    def test_lists_and_tuples_and_booleans(self):
        self.refused(H, T, (), (S,), [list(S)], (list(S),), S, list(S), [[S]], [(S,)])
        self.refused(H, T, (), [(True, "start", 0, "backward")], [(1, "start", False, "backward")])
        self.refused(H, H, (), (), None, False, 0, "", [[]], [()])

    def test_conventions(self):
        for value in ([S], (S,), [list(S)], [], None):
            helpers.check_conventions(self, is_slide_path, house=H, target=T, fixed=(0,), value=value)
            helpers.check_conventions(self, is_slide_path, house=H, target=H, fixed=(0,), value=value)


# One obstruction of each kind, as (house, target, fixed, obstruction).
FIXED = (H, T, (0, 1), ("fixed", 1))
START = (YARD, NO_START, (0,), ("component", 3, "start", [0, 1]))
END = (YARD, NO_END, (), ("component", 3, "end", [2, 3]))
TURN = (YARD, NO_TURN, (1,), ("positions", 3, sorted(helpers.least_slides_alone(YARD, 3))))
FEW = (H, (3, 3, ((0, 1, R), (1, 2, R))), (), ("positions", 1, [(0, 2, R), (1, 2, SAME)]))
KINDS = (FIXED, START, END, TURN, FEW)


class ObstructionTest(unittest.TestCase):
    def refused(self, house, target, fixed, *values):
        for value in values:
            with self.subTest(value=value):
                self.assertIs(is_obstruction(house, target, fixed, value), False)

    def accepted(self, house, target, fixed, *values):
        for value in values:
            with self.subTest(value=value):
                self.assertIs(is_obstruction(house, target, fixed, value), True)

    def compare(self, house, target, fixed, *values):
        for value in values:
            expected = helpers.is_obstruction_by_hand(house, target, fixed, value)
            self.assertIs(is_obstruction(house, target, fixed, value), expected, value)

    def test_each_kind(self):
        for house, target, fixed, value in KINDS:
            self.accepted(house, target, fixed, value)
            self.refused(house, house, fixed, value)

    def test_fixed(self):
        self.accepted(H, T, (1,), ("fixed", 1))
        self.refused(H, T, (), ("fixed", 1), ("fixed", 0))
        self.refused(H, T, (0,), ("fixed", 1), ("fixed", 0))
        self.refused(H, T, (0, 1), ("fixed", 0), ("fixed", 2), ("fixed", -1), ("fixed", 10 ** 12))
        both = (3, 3, ((0, 1, SAME), (1, 2, R)))
        self.accepted(H, both, (0, 1), ("fixed", 0), ("fixed", 1))
        self.refused(H, both, (0,), ("fixed", 1))

    def test_other_kinds_only_for_passages_that_are_not_fixed(self):
        for house, target, _, value in KINDS[1:]:
            for fixed in helpers.all_fixed(house):
                self.assertIs(is_obstruction(house, target, fixed, value), value[1] not in fixed)

    def test_all_components(self):
        every = [list(rooms) for many in range(6) for rooms in itertools.combinations(range(5), many)]
        for target in (NO_START, NO_END, NO_TURN, YARD):
            for index, side, rooms in itertools.product(range(-1, 5), helpers.SIDES, every):
                self.compare(YARD, target, (), ("component", index, side, rooms))
        self.accepted(YARD, NO_START, (), ("component", 3, "start", [0, 1, 2, 3]))
        self.refused(YARD, NO_START, (), ("component", 3, "start", [0, 1, 2]), ("component", 3, "start", [1]))
        self.refused(YARD, NO_START, (), ("component", 3, "start", [0, 1, 4]), ("component", 3, "end", [0, 1]))

    def test_all_sets_of_positions(self):
        houses = helpers.all_houses(2, 2, 2)
        passages = helpers.all_passages(2, 2)
        chance = random.Random(14)
        every = [list(some) for many in range(9) for some in itertools.combinations(passages, many)]
        for _ in range(60):
            house, target = chance.choice(houses), chance.choice(houses)
            target = chance.choice([target, (2, 2, (house[2][0], target[2][1]))])
            obstructed = False
            for index, some in itertools.product(range(2), every):
                value = ("positions", index, some)
                self.compare(house, target, (), value)
                obstructed = obstructed or is_obstruction(house, target, (), value)
            # There is an obstruction or a list of slides, and never both.
            self.assertIs(obstructed, not is_reachable(house, target))

    def test_no_obstruction_of_a_reachable_target(self):
        chance = random.Random(15)
        for house in helpers.random_houses(16, 20, most_rooms=3):
            rooms = [list(some) for many in range(4) for some in itertools.combinations(range(house[0]), many)]
            for fixed in ((), (0,)):
                fixed = tuple(index for index in fixed if index < len(house[2]))
                _, target = helpers.random_slides(chance, house, 9, fixed)
                for index in range(len(house[2])):
                    self.refused(house, target, fixed, ("fixed", index), ("positions", index, positions(house, index)))
                    for side, some in itertools.product(helpers.SIDES, rooms):
                        self.assertIs(is_obstruction(house, target, fixed, ("component", index, side, some)), False)

    def test_only_passages_older_than_the_index_count(self):
        house = (3, 1, ((0, 0, (0,)), (0, 1, (0,)), (1, 2, (0,))))
        target = (3, 1, ((0, 0, (0,)), (2, 1, (0,)), (1, 2, (0,))))
        self.accepted(house, target, (), ("component", 1, "start", [0]), ("component", 1, "start", [0, 1]))
        self.accepted(house, target, (), ("positions", 1, [(0, 1, (0,))]))
        changed = (3, 1, house[2][:2] + ((2, 2, (0,)),))
        self.refused(house, changed, (), ("component", 2, "start", [1]))
        self.refused(house, changed, (), ("component", 2, "start", [0, 1, 2]))
        self.accepted(house, changed, (), ("component", 2, "start", [0, 1]))

    def test_incomplete_positions(self):
        house, target, fixed, (kind, index, passages) = TURN
        for place in range(len(passages)):
            self.refused(house, target, fixed, (kind, index, passages[:place] + passages[place + 1:]))
        self.refused(house, target, fixed, (kind, index, []), (kind, index, [house[2][3]]))

    def test_more_positions(self):
        house, target, fixed, (kind, index, passages) = TURN
        others = positions(NO_START, 3)
        self.assertEqual(len(others), 2)
        self.accepted(house, target, fixed, (kind, index, sorted(passages + others)))
        self.refused(house, target, fixed, (kind, index, sorted(passages + others[:-1])))
        self.refused(house, target, fixed, (kind, index, sorted(passages + positions(target, 3))))
        self.refused(house, target, fixed, (kind, index, helpers.all_passages(5, 3)))
        self.refused(house, target, fixed, (kind, index, others))

    def test_order_and_repetitions(self):
        for house, target, fixed, value in (START, END, TURN, FEW):
            found = value[-1]
            for changed in (found[::-1], found + found, found + found[-1:], found[:1] + found, found[1:] + found[:1]):
                self.refused(house, target, fixed, value[:-1] + (changed,))

    def test_elements_that_do_not_fit(self):
        house, target, fixed, value = START
        for more in (5, 6, 10 ** 12):
            self.refused(house, target, fixed, value[:-1] + ([0, 1, more],))
        for less in (-1, -10 ** 12):
            self.refused(house, target, fixed, value[:-1] + ([less, 0, 1],))
        house, target, fixed, value = FEW
        for passage in ((2, 3, SAME), (3, 0, SAME), (2, 2, (0, 1)), (2, 2, (0, 1, 2, 3)), (2, 2, (1, 1, 2)), (2, 2)):
            self.refused(house, target, fixed, value[:-1] + (value[-1] + [passage],))
        self.refused(house, target, fixed, value[:-1] + ([(-1, 2, SAME)] + value[-1],))

    def test_values_of_every_kind(self):
        for house, target, fixed, value in KINDS:
            self.refused(house, target, fixed, *helpers.junk())
            self.refused(house, house, (), *helpers.junk())
            for junk in helpers.junk():
                changed = [value[:place] + (junk,) + value[place + 1:] for place in range(len(value))]
                changed += [value[:-1] + ([junk],), value[:-1] + ([junk, junk],), value + (junk,), [value, junk]]
                self.compare(house, target, fixed, *changed)

    def test_spoiled_obstructions(self):
        for house, target, fixed, value in (FIXED, START, END, FEW):
            self.refused(house, target, fixed, *helpers.spoiled(value))
        house, target, fixed, (kind, index, passages) = TURN
        for place in (0, 4, len(passages) - 1):
            for wrong in helpers.spoiled(passages[place]):
                self.refused(house, target, fixed, (kind, index, passages[:place] + [wrong] + passages[place + 1:]))
        self.refused(house, target, fixed, (kind, index, tuple(passages)), [kind, index, passages])

    def test_varied_obstructions(self):
        for house, target, _, value in (FIXED, START, END, FEW):
            for fixed in helpers.all_fixed(house)[:4]:
                self.compare(house, target, fixed, *helpers.varied(value))

    def test_booleans_are_no_integers(self):
        self.refused(H, T, (0, 1), ("fixed", True))
        changed = (3, 3, ((1, 1, R), (1, 2, SAME)))
        self.accepted(H, changed, (0,), ("fixed", 0))
        self.refused(H, changed, (0,), ("fixed", False))
        self.refused(YARD, NO_START, (), ("component", 3, "start", [False, True]), ("component", 3, "start", [0, True]))
        self.refused(*FEW[:3], ("positions", True, FEW[3][2]), ("positions", 1, [(False, 2, R), (1, 2, SAME)]))
        self.refused(*FEW[:3], ("positions", 1, [(0, 2, R), (True, 2, SAME)]))
        self.refused(*FEW[:3], ("positions", 1, [(0, 2, (True, 2, 0)), (1, 2, SAME)]))

    def test_lists_and_tuples(self):
        for house, target, fixed, value in KINDS:
            self.refused(house, target, fixed, list(value), [value], (value,), helpers.listed(value))
        self.refused(*START[:3], START[3][:-1] + ((0, 1),))
        self.refused(*FEW[:3], FEW[3][:-1] + (tuple(FEW[3][-1]),), FEW[3][:-1] + (helpers.listed(FEW[3][-1]),))

    def test_missing_and_superfluous_elements(self):
        for house, target, fixed, value in KINDS:
            self.refused(house, target, fixed, value + (0,), value + ([],), value + (None,), value + value)
            self.refused(house, target, fixed, *(value[:many] for many in range(len(value))))
            self.refused(house, target, fixed, *(value[many:] for many in range(1, len(value))))

    def test_other_strings(self):
        for house, target, fixed, value in KINDS:
            for word in ("fixed", "component", "positions", "slides", "", "Fixed", "components", "position"):
                self.compare(house, target, fixed, (word,) + value[1:])
            self.refused(house, target, fixed, *((word,) + value[1:] for word in ("slides", "", "Fixed", "position")))
        for word in ("", "Start", "begin", "forward", "both"):
            self.refused(*START[:3], ("component", 3, word, [0, 1]))

    def test_slides_are_no_obstruction(self):
        self.refused(H, T, (), plan(H, T), ("slides", [S]), [S])

    def test_conventions(self):
        for house, target, fixed, value in KINDS:
            helpers.check_conventions(self, is_obstruction, house=house, target=target, fixed=fixed, value=value)
            helpers.check_conventions(self, is_obstruction, house=house, target=target, fixed=fixed, value=list(value))


class GuaranteesTest(unittest.TestCase):
    """Point 1, as far as it speaks of reachability."""

    def test_each_passage_of_the_target_is_a_position(self):
        chance = random.Random(17)
        for house in helpers.random_houses(18, 60):
            parts = [positions(house, index) for index in range(len(house[2]))]
            target = (house[0], house[1], tuple(chance.choice(part) for part in parts))
            check_plan(self, house, target, (), True)
            for index in range(len(house[2])):
                passage = helpers.random_passage(chance, house[0], house[1])
                changed = (house[0], house[1], target[2][:index] + (passage,) + target[2][index + 1:])
                check_plan(self, house, changed, (), passage in parts[index])

    def test_every_combination_of_positions_occurs(self):
        searched = 0
        for house in helpers.random_houses(19, 50):
            known = helpers.least_slides(house, most=500)
            if known is not None:
                searched += 1
                parts = [positions(house, index) for index in range(len(house[2]))]
                self.assertEqual({new[2] for new in known}, set(itertools.product(*parts)))
        self.assertGreater(searched, 25)

    def test_both_ways(self):
        chance = random.Random(20)
        for house in helpers.random_houses(21, 40):
            _, target = helpers.random_slides(chance, house, 6)
            other = helpers.random_house(chance, house[0], house[1], len(house[2]))
            self.assertIs(is_reachable(target, house), True)
            self.assertIs(is_reachable(other, house), is_reachable(house, other))
            self.assertIs(is_reachable(other, target), is_reachable(house, other))


if __name__ == "__main__":
    unittest.main()
