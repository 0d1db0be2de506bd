"""Points 1, 2, 3, 8 and 9: the functions of slides.py."""

import itertools
import random
import unittest

from elderways.components import components
from elderways.errors import NotOlder, UnknownPassage, WrongRoom
from elderways.houses import follow, is_house
from elderways.slides import apply_slide, apply_slides, first_invalid, is_slide, possible_slides, reverse_slide
from elderways.walks import permutations_between
from tests import helpers
from tests.helpers import DIRECTIONS, H, NUMBERS, OPPOSITE, R, S, SIDES, T

LOOPS = (1, 3, ((0, 0, R), (0, 0, (1, 0, 2))))
YARD = (3, 3, ((0, 1, R), (1, 1, (1, 0, 2)), (2, 1, (0, 2, 1)), (0, 2, (0, 1, 2))))


class ExamplesTest(unittest.TestCase):
    """The examples of points 8 and 9, as written."""

    def test_is_slide(self):
        self.assertIs(is_slide(H, S), True)

    def test_possible_slides(self):
        self.assertEqual(possible_slides(H), [(1, "start", 0, "backward")])

    def test_apply_slide(self):
        self.assertEqual(apply_slide(H, S), (3, 3, ((0, 1, (1, 2, 0)), (0, 2, (1, 2, 0)))))

    def test_apply_slides(self):
        self.assertEqual(apply_slides(H, [S]), (3, 3, ((0, 1, (1, 2, 0)), (0, 2, (1, 2, 0)))))

    def test_reverse_slide(self):
        self.assertEqual(reverse_slide(S), (1, "start", 0, "forward"))

    def test_first_invalid(self):
        self.assertEqual(first_invalid(H, [S], (1,)), 0)


def sample_houses(seed, many):
    """Return houses of many shapes, small and of the full size."""
    return [H, T, LOOPS, YARD, (1, 1, ())] + helpers.random_houses(seed, many) + helpers.full_houses(seed, 3)


class IsSlideTest(unittest.TestCase):
    def refused(self, house, *values):
        for value in values:
            with self.subTest(value=value):
                self.assertIs(is_slide(house, value), False)

    def test_every_slide(self):
        for house in sample_houses(1, 40):
            indices = range(-2, len(house[2]) + 2)
            for value in itertools.product(indices, SIDES, indices, DIRECTIONS):
                self.assertIs(is_slide(house, value), helpers.is_slide_by_hand(house, value), value)

    def test_any_integer_as_an_index(self):
        for number in NUMBERS:
            for side, direction in itertools.product(SIDES, DIRECTIONS):
                self.refused((1, 1, ()), (number, side, 0, direction), (0, side, number, direction))
                self.refused(LOOPS, (0, side, number, direction), (number, side, 1, direction))
                self.assertIs(is_slide(LOOPS, (1, side, number, direction)), number == 0)
                self.assertIs(is_slide(LOOPS, (number, side, 0, direction)), number == 1)

    def test_only_along_older_passages(self):
        self.refused(LOOPS, (0, "end", 0, "forward"), (1, "end", 1, "forward"), (0, "end", 1, "forward"))
        self.assertIs(is_slide(LOOPS, (1, "end", 0, "forward")), True)

    def test_wrong_room(self):
        self.refused(H, (1, "start", 0, "forward"), (1, "end", 0, "backward"), (1, "end", 0, "forward"))

    def test_values_of_every_kind(self):
        for house in (H, LOOPS, (1, 1, ())):
            self.refused(house, *helpers.junk())
        for value in helpers.junk():
            for place in range(4):
                for slide in ((1, "end", 0, "forward"), (1, "start", 0, "backward")):
                    changed = slide[:place] + (value,) + slide[place + 1:]
                    self.assertIs(is_slide(LOOPS, changed), helpers.is_slide_by_hand(LOOPS, changed), changed)

    def test_spoiled_slides(self):
        self.refused(H, *helpers.spoiled(S))
        self.refused(LOOPS, *helpers.spoiled((1, "end", 0, "forward")), *helpers.spoiled((1, "start", 0, "backward")))

    def test_varied_slides(self):
        for house, slide in ((H, S), (LOOPS, (1, "end", 0, "forward")), (YARD, (3, "end", 2, "forward"))):
            self.assertIs(is_slide(house, slide), True)
            for value in helpers.varied(slide):
                self.assertIs(is_slide(house, value), helpers.is_slide_by_hand(house, value), value)

    def test_booleans_are_no_integers(self):
        self.refused(H, (True, "start", 0, "backward"), (1, "start", False, "backward"))
        self.refused(H, (True, "start", False, "backward"))

    def test_lists_are_no_tuples(self):
        self.refused(H, list(S), [S], (list(S),), [list(S)])

    def test_missing_and_superfluous_elements(self):
        self.refused(H, (), S[:3], S[1:], S[:1], S + (0,), S + (None,), S + ("forward",), (S,))
        self.refused(H, (1, 0, "start", "backward"), ("start", 1, 0, "backward"))

    def test_other_strings(self):
        for word in ("", "Start", "START", "start ", "begin", "backward", "0"):
            self.refused(H, (1, word, 0, "backward"), ("1", "start", 0, "backward"), (1, "start", "0", "backward"))
        for word in ("", "Backward", "back", "backwards", "start", "end", "0"):
            self.refused(H, (1, "start", 0, word))
        self.refused(H, "start", "1 start 0 backward")

    def test_conventions(self):
        for value in (S, list(S), (1, "end", 0, "backward"), (9, "end", 0, "backward")):
            helpers.check_conventions(self, is_slide, house=H, value=value)


class PossibleSlidesTest(unittest.TestCase):
    def test_all_in_ascending_order(self):
        for house in sample_houses(2, 40):
            self.assertEqual(possible_slides(house), sorted(helpers.allowed_slides(house)))

    def test_no_passage_and_one_passage(self):
        self.assertEqual(possible_slides((1, 1, ())), [])
        self.assertEqual(possible_slides((3, 2, ())), [])
        self.assertEqual(possible_slides((1, 1, ((0, 0, (0,)),))), [])

    def test_both_ends_in_one_room(self):
        sides = [(1, side, 0, direction) for side in ("end", "start") for direction in ("backward", "forward")]
        self.assertEqual(possible_slides(LOOPS), sides)
        self.assertEqual(possible_slides((1, 1, ((0, 0, (0,)), (0, 0, (0,))))), sides)

    def test_eight_loops_again_and_again(self):
        house = (1, 4, ((0, 0, (1, 2, 3, 0)),) * 8)
        expected = sorted(itertools.product(range(8), SIDES, range(8), DIRECTIONS))
        expected = [slide for slide in expected if slide[2] < slide[0]]
        for form in (helpers.tupled, helpers.listed) * 30:
            found = possible_slides(form(house))
            self.assertEqual(found, expected)
            found.clear()

    def test_order(self):
        self.assertEqual(possible_slides(YARD), [
            (1, "end", 0, "backward"),
            (1, "start", 0, "backward"),
            (2, "end", 0, "backward"),
            (2, "end", 1, "backward"),
            (2, "end", 1, "forward"),
            (3, "end", 2, "forward"),
            (3, "start", 0, "forward"),
        ])

    def test_conventions(self):
        for house in (H, YARD, LOOPS, (1, 1, ())):
            helpers.check_conventions(self, possible_slides, house=house)

    def test_beyond_the_limits(self):
        house = (12, 6, ((0, 11, (1, 2, 3, 4, 5, 0)),) * 15)
        self.assertEqual(possible_slides(house), sorted(helpers.allowed_slides(house)))


class ApplySlideTest(unittest.TestCase):
    def raised(self, error, fields, house, slide):
        with self.subTest(slide=slide):
            for form in (slide, list(slide)):
                with self.assertRaises(error) as caught:
                    apply_slide(house, form)
                self.assertIs(type(caught.exception), error)
                self.assertEqual(vars(caught.exception), fields)
            for call in (lambda: apply_slides(house, [slide]), lambda: apply_slides(helpers.listed(house), (slide, S))):
                with self.assertRaises(error) as caught:
                    call()
                self.assertEqual(vars(caught.exception), fields)
            self.assertEqual(first_invalid(house, [slide], ()), 0)

    def test_every_slide(self):
        for house in sample_houses(3, 40):
            for slide in helpers.allowed_slides(house):
                self.assertEqual(apply_slide(house, slide), helpers.slid(house, slide))

    def test_sides_and_directions(self):
        house = (2, 3, ((0, 1, R), (0, 0, (1, 0, 2))))
        self.assertEqual(apply_slide(house, (1, "end", 0, "forward"))[2][1], (0, 1, (2, 1, 0)))
        self.assertEqual(apply_slide(house, (1, "start", 0, "forward"))[2][1], (1, 0, (2, 1, 0)))
        house = (2, 3, ((1, 0, R), (0, 0, (1, 0, 2))))
        self.assertEqual(apply_slide(house, (1, "end", 0, "backward"))[2][1], (0, 1, (0, 2, 1)))
        self.assertEqual(apply_slide(house, (1, "start", 0, "backward"))[2][1], (1, 0, (0, 2, 1)))

    def test_around_a_loop(self):
        self.assertEqual(apply_slide(LOOPS, (1, "end", 0, "forward"))[2][1], (0, 0, (2, 1, 0)))
        self.assertEqual(apply_slide(LOOPS, (1, "end", 0, "backward"))[2][1], (0, 0, (0, 2, 1)))
        self.assertEqual(apply_slide(LOOPS, (1, "start", 0, "forward"))[2][1], (0, 0, (2, 1, 0)))
        self.assertEqual(apply_slide(LOOPS, (1, "start", 0, "backward"))[2][1], (0, 0, (0, 2, 1)))

    def test_other_passages_stay(self):
        for house in sample_houses(4, 30):
            for slide in helpers.allowed_slides(house):
                new = apply_slide(house, slide)
                self.assertEqual(new[:2], house[:2])
                self.assertEqual(len(new[2]), len(house[2]))
                for other in range(len(house[2])):
                    if other != slide[0]:
                        self.assertEqual(new[2][other], house[2][other])

    def test_unknown_passage(self):
        for number in (-1, -2, -3, 2, 3, 12, 10 ** 12, -10 ** 12):
            for side, direction in itertools.product(SIDES, DIRECTIONS):
                self.raised(UnknownPassage, {"index": number}, H, (number, side, 0, direction))
                self.raised(UnknownPassage, {"index": number}, H, (1, side, number, direction))
                self.raised(UnknownPassage, {"index": number}, H, (0, side, number, direction))
        for number in NUMBERS:
            self.raised(UnknownPassage, {"index": number}, (1, 1, ()), (number, "end", 0, "forward"))

    def test_the_index_comes_before_older(self):
        for first, second in ((5, -1), (-1, 5), (2, 3), (-2, -1), (10 ** 12, 2)):
            self.raised(UnknownPassage, {"index": first}, H, (first, "end", second, "forward"))

    def test_not_older(self):
        for direction in DIRECTIONS:
            for side in SIDES:
                self.raised(NotOlder, {"older": 1}, LOOPS, (1, side, 1, direction))
                self.raised(NotOlder, {"older": 1}, LOOPS, (0, side, 1, direction))
                self.raised(NotOlder, {"older": 0}, LOOPS, (0, side, 0, direction))
                self.raised(NotOlder, {"older": 3}, YARD, (2, side, 3, direction))

    def test_not_older_comes_before_wrong_room(self):
        self.raised(NotOlder, {"older": 1}, H, (0, "start", 1, "backward"))
        self.raised(NotOlder, {"older": 1}, H, (1, "start", 1, "backward"))

    def test_an_unknown_passage_comes_before_not_older(self):
        self.raised(UnknownPassage, {"index": 2}, H, (1, "start", 2, "backward"))
        self.raised(UnknownPassage, {"index": 2}, H, (2, "start", 2, "backward"))

    def test_wrong_room(self):
        self.raised(WrongRoom, {"room": 0}, H, (1, "start", 0, "forward"))
        self.raised(WrongRoom, {"room": 0}, H, (1, "end", 0, "forward"))
        self.raised(WrongRoom, {"room": 1}, H, (1, "end", 0, "backward"))
        self.raised(WrongRoom, {"room": 2}, YARD, (3, "start", 2, "forward"))
        self.raised(WrongRoom, {"room": 1}, YARD, (3, "end", 1, "forward"))

    def test_every_wrong_room(self):
        for house in sample_houses(5, 30):
            allowed = set(helpers.allowed_slides(house))
            for index in range(len(house[2])):
                for side, older, direction in itertools.product(SIDES, range(index), DIRECTIONS):
                    if (index, side, older, direction) not in allowed:
                        begins = helpers.way(house[2][older], direction)[0]
                        self.raised(WrongRoom, {"room": begins}, house, (index, side, older, direction))

    def test_conventions(self):
        helpers.check_conventions(self, apply_slide, house=H, slide=S)
        helpers.check_conventions(self, apply_slide, house=YARD, slide=(3, "end", 2, "forward"))
        helpers.check_conventions(self, apply_slide, house=LOOPS, slide=(1, "end", 0, "forward"))

    def test_result_is_a_house(self):
        for form in (helpers.listed, helpers.tupled, helpers.mixed):
            for house in sample_houses(6, 20):
                for slide in helpers.allowed_slides(house):
                    self.assertIs(is_house(apply_slide(form(house), form(slide))), True)
                self.assertIs(is_house(apply_slides(form(house), [])), True)

    def test_arguments_stay_when_an_error_is_raised(self):
        house, slides = helpers.listed(H), [list(S), list(S)]
        with self.assertRaises(WrongRoom):
            apply_slides(house, slides)
        self.assertEqual((house, slides), (helpers.listed(H), [list(S), list(S)]))

    def test_beyond_the_limits(self):
        house = (12, 6, ((0, 11, (1, 2, 3, 4, 5, 0)),) * 15)
        for slide in helpers.allowed_slides(house):
            self.assertEqual(apply_slide(house, slide), helpers.slid(house, slide))
        self.raised(WrongRoom, {"room": 11}, house, (14, "start", 13, "backward"))


class ApplySlidesTest(unittest.TestCase):
    def test_empty_list(self):
        for house in sample_houses(7, 20):
            self.assertEqual(apply_slides(house, []), house)

    def test_random_lists(self):
        chance = random.Random(8)
        for house in sample_houses(9, 40):
            slides, expected = helpers.random_slides(chance, house, 10)
            self.assertEqual(apply_slides(house, slides), expected)

    def test_two_hundred_slides(self):
        chance = random.Random(10)
        for house in helpers.full_houses(11, 2) + [YARD]:
            slides, expected = helpers.random_slides(chance, house, 200)
            self.assertEqual(len(slides), 200)
            self.assertEqual(apply_slides(house, slides), expected)
            self.assertIsNone(first_invalid(house, slides, ()))
            back = [reverse_slide(slide) for slide in reversed(slides)]
            self.assertEqual(apply_slides(expected, back), house)
        self.assertEqual(apply_slides(LOOPS, [(1, "end", 0, "forward")] * 200)[2][1][2], (0, 2, 1))

    def raised(self, error, fields, house, slides):
        with self.assertRaises(error) as caught:
            apply_slides(house, slides)
        self.assertIs(type(caught.exception), error)
        self.assertEqual(vars(caught.exception), fields)

    def test_first_error_that_occurs(self):
        unknown, later, room = (7, "end", 0, "forward"), (0, "end", 1, "forward"), (1, "end", 0, "forward")
        self.raised(UnknownPassage, {"index": 7}, H, [S, unknown, later, room])
        self.raised(NotOlder, {"older": 1}, H, [S, later, unknown, room])
        self.raised(WrongRoom, {"room": 0}, H, [S, room, later, unknown])
        # The start has left the room in which the second slide begins.
        self.raised(WrongRoom, {"room": 1}, H, [S, S])

    def test_later_slides_see_the_earlier_ones(self):
        self.assertEqual(apply_slides(H, [S, (1, "start", 0, "forward")]), H)
        moved = apply_slides(YARD, [(1, "end", 0, "backward"), (1, "start", 0, "backward"), (3, "start", 1, "forward")])
        self.assertEqual(moved[2][1], (0, 0, (2, 1, 0)))
        self.assertEqual(moved[2][3], (0, 2, (2, 1, 0)))

    def test_conventions(self):
        for slides in ([], [S], [S, (1, "start", 0, "forward"), S]):
            helpers.check_conventions(self, apply_slides, house=H, slides=slides)


class ReverseSlideTest(unittest.TestCase):
    def test_reverses_the_direction_alone(self):
        for index, side, older, direction in itertools.product(NUMBERS, SIDES, NUMBERS, DIRECTIONS):
            expected = (index, side, older, OPPOSITE[direction])
            self.assertEqual(reverse_slide((index, side, older, direction)), expected)

    def test_conventions(self):
        for slide in (S, (1, "end", 0, "forward")):
            helpers.check_conventions(self, reverse_slide, slide=slide)


class FirstInvalidTest(unittest.TestCase):
    def test_no_slide(self):
        for house in (H, LOOPS, (1, 1, ())):
            self.assertIsNone(first_invalid(house, [], ()))
        self.assertIsNone(first_invalid(H, [], (0, 1)))

    def test_valid_lists(self):
        chance = random.Random(12)
        for house in sample_houses(13, 30):
            for fixed in ((), (1,), (0, 2)):
                fixed = tuple(index for index in fixed if index < len(house[2]))
                slides, _ = helpers.random_slides(chance, house, 8, fixed)
                self.assertIsNone(first_invalid(house, slides, fixed))

    def test_first_error(self):
        back = reverse_slide(S)
        faults = [(7, "end", 0, "forward"), (-1, "end", 0, "forward"), (1, "end", 9, "forward")]
        faults += [(1, "end", -2, "forward"), (0, "start", 0, "forward"), (0, "start", 1, "forward")]
        faults += [(1, "start", 1, "backward")]
        faults += [(1, "end", 0, "forward"), (1, "end", 0, "backward")]
        for fault in faults:
            for place in range(6):
                slides = [S, back] * 3
                slides.insert(place, fault)
                self.assertEqual(first_invalid(H, slides, ()), place)
                self.assertEqual(first_invalid(H, slides + [fault], (0,)), place)
        self.assertEqual(first_invalid(H, [S, back, back], ()), 2)

    def test_first_slide_of_a_fixed_passage(self):
        slides = [(1, "end", 0, "backward"), (2, "end", 0, "backward"), (3, "end", 2, "forward")]
        self.assertIsNone(first_invalid(YARD, slides, ()))
        for fixed in helpers.all_fixed(YARD):
            places = [place for place, slide in enumerate(slides) if slide[0] in fixed]
            self.assertEqual(first_invalid(YARD, slides, fixed), min(places, default=None))

    def test_along_a_fixed_passage(self):
        self.assertIsNone(first_invalid(H, [S], (0,)))
        self.assertIsNone(first_invalid(YARD, [(3, "end", 2, "forward"), (2, "end", 1, "forward")], (0, 1)))

    def test_slide_that_changes_nothing(self):
        house = (1, 1, ((0, 0, (0,)), (0, 0, (0,))))
        slide = (1, "end", 0, "forward")
        self.assertEqual(apply_slide(house, slide), house)
        self.assertIsNone(first_invalid(house, [slide], (0,)))
        self.assertEqual(first_invalid(house, [slide], (1,)), 0)

    def test_the_earlier_of_an_error_and_a_fixed_passage(self):
        error, fixed = (1, "end", 0, "forward"), (2, "end", 0, "backward")
        self.assertEqual(first_invalid(YARD, [error, fixed], (2,)), 0)
        self.assertEqual(first_invalid(YARD, [fixed, error], (2,)), 0)
        self.assertEqual(first_invalid(YARD, [(3, "end", 2, "forward"), fixed, error], (2,)), 1)

    def test_two_hundred_slides(self):
        slides = [S, reverse_slide(S)] * 100
        self.assertIsNone(first_invalid(H, slides, (0,)))
        self.assertEqual(first_invalid(H, slides[:-1] + [S], ()), 199)
        self.assertEqual(first_invalid(H, slides, (0, 1)), 0)

    def test_conventions(self):
        for fixed in ((), (0,), (1,), (0, 1)):
            for slides in ([], [S], [S, S]):
                helpers.check_conventions(self, first_invalid, house=H, slides=slides, fixed=fixed)


class GuaranteesTest(unittest.TestCase):
    """Point 1, as far as it speaks of walks and slides."""

    def test_components_never_change(self):
        for house in sample_houses(14, 25):
            for slide in helpers.allowed_slides(house):
                new = apply_slide(house, slide)
                for count in range(len(house[2]) + 1):
                    self.assertEqual(components(new, count), components(house, count))

    def test_permutations_of_walks_never_change(self):
        for house in helpers.random_houses(15, 15, most_rooms=3) + [YARD, LOOPS]:
            for slide in helpers.allowed_slides(house):
                new = apply_slide(house, slide)
                for count in range(len(house[2]) + 1):
                    for start, end in itertools.product(range(house[0]), repeat=2):
                        expected = permutations_between(house, start, end, count)
                        self.assertEqual(permutations_between(new, start, end, count), expected)

    def test_slid_passage_has_the_effect_of_both(self):
        for house in sample_houses(16, 30):
            for slide in helpers.allowed_slides(house):
                index, side, older, direction = slide
                new = apply_slide(house, slide)
                if side == "end":
                    walk = [(index, "forward"), (older, direction)]
                else:
                    walk = [(older, OPPOSITE[direction]), (index, "forward")]
                start, end, permutation = new[2][index]
                self.assertEqual(follow(house, start, walk), (end, permutation))
                self.assertEqual(follow(new, start, [(index, "forward")]), (end, permutation))

    def test_reversed_slide_restores_the_house(self):
        for house in sample_houses(17, 30):
            for slide in helpers.allowed_slides(house):
                new = apply_slide(house, slide)
                self.assertIs(is_slide(new, reverse_slide(slide)), True)
                self.assertEqual(apply_slide(new, reverse_slide(slide)), house)
                self.assertEqual(reverse_slide(reverse_slide(slide)), slide)


if __name__ == "__main__":
    unittest.main()
