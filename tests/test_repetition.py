"""Points 2, 3 and 16: the functions of repetition.py."""

import itertools
import random
import unittest

from elderways.errors import NotLoop, NotOlder, UnknownPassage, WrongRoom
from elderways.houses import is_house
from elderways.repetition import apply_repeated, period
from elderways.slides import apply_slide, reverse_slide
from tests import helpers
from tests.helpers import DIRECTIONS, H, NUMBERS, R, S, SIDES

L = (1, 3, ((0, 0, (1, 2, 0)), (0, 0, (0, 1, 2))))
TURN = (1, "end", 0, "forward")
# Loops of the orders 4, 2 and 1 in room 0, one of order 3 in room 1, and passages between the rooms.
YARD = (3, 4, (
    (0, 0, (1, 2, 3, 0)), (0, 0, (1, 0, 3, 2)), (0, 0, (0, 1, 2, 3)), (1, 1, (1, 2, 0, 3)),
    (0, 1, (3, 1, 2, 0)), (1, 0, (0, 2, 1, 3)),
))
TIMES = (0, 1, 2, 3, 4, 5, 6, 7, 12, 60, 199)


class ExamplesTest(unittest.TestCase):
    """The examples of point 16, as written."""

    def test_apply_repeated(self):
        expected = (1, 3, ((0, 0, (1, 2, 0)), (0, 0, (2, 0, 1))))
        self.assertEqual(apply_repeated(L, (1, "end", 0, "forward"), 2), expected)

    def test_period(self):
        self.assertEqual(period(L, (1, "end", 0, "forward")), 3)


def loop_slides(house):
    """Return the slides that the house allows along passages with both ends in one room."""
    return [slide for slide in helpers.allowed_slides(house) if house[2][slide[2]][0] == house[2][slide[2]][1]]


def slid_times(house, slide, times):
    """Apply a slide by hand, that many times."""
    for _ in range(times):
        house = helpers.slid(house, slide)
    return house


def period_by_hand(house, slide):
    """Count the times until the house is as before."""
    times, here = 1, helpers.slid(house, slide)
    while here != house:
        times, here = times + 1, helpers.slid(here, slide)
    return times


def sample_houses(seed, many):
    """Return houses of few rooms, in which loops are frequent."""
    return [L, YARD] + helpers.random_houses(seed, many, most_rooms=2, most_size=4, most_passages=5)


class RepeatedTest(unittest.TestCase):
    def test_few_times(self):
        tried = 0
        for house in sample_houses(1, 30):
            for slide in loop_slides(house):
                tried += 1
                for times in TIMES:
                    self.assertEqual(apply_repeated(house, slide, times), slid_times(house, slide, times))
        self.assertGreater(tried, 100)

    def test_no_time_and_one_time(self):
        for house in sample_houses(2, 30):
            for slide in loop_slides(house):
                self.assertEqual(apply_repeated(house, slide, 0), house)
                self.assertEqual(apply_repeated(house, slide, 1), apply_slide(house, slide))

    def test_very_many_times(self):
        for house in sample_houses(3, 30):
            for slide in loop_slides(house):
                for times in (10 ** 12, 10 ** 12 - 1, 10 ** 12 - 5, 999999999989):
                    # Every order of a permutation of four items divides 12.
                    expected = slid_times(house, slide, times % 12)
                    self.assertEqual(apply_repeated(house, slide, times), expected)
                    self.assertEqual(apply_repeated(expected, reverse_slide(slide), times), house)

    def test_both_sides_and_directions(self):
        self.assertEqual(apply_repeated(YARD, (4, "start", 0, "forward"), 3)[2][4], (0, 1, (1, 2, 0, 3)))
        self.assertEqual(apply_repeated(YARD, (4, "start", 0, "backward"), 1)[2][4], (0, 1, (1, 2, 0, 3)))
        self.assertEqual(apply_repeated(YARD, (4, "end", 3, "forward"), 2)[2][4], (0, 1, (3, 0, 1, 2)))
        self.assertEqual(apply_repeated(YARD, (4, "end", 3, "backward"), 4)[2][4], (0, 1, (3, 0, 1, 2)))

    def test_passage_that_leads_elsewhere(self):
        # Only the ends of the older passage must be in one room.
        self.assertEqual(period(YARD, (4, "start", 0, "forward")), 4)
        self.assertEqual(period(YARD, (5, "start", 3, "backward")), 3)

    def test_other_passages_stay(self):
        for slide in loop_slides(YARD):
            found = apply_repeated(YARD, slide, 10 ** 12 + 1)
            self.assertEqual(found[:2], YARD[:2])
            for place in range(6):
                if place != slide[0]:
                    self.assertEqual(found[2][place], YARD[2][place])

    def test_beyond_the_limits(self):
        cycle = (1, 2, 3, 4, 5, 6, 0)
        house = (10, 7, ((9, 9, cycle),) * 14)
        self.assertEqual(apply_repeated(house, (13, "end", 12, "forward"), 7 * 10 ** 30 + 6)[2][13][2], tuple(range(7)))
        self.assertEqual(period(house, (13, "start", 12, "forward")), 7)

    def test_results_are_houses(self):
        for form in (helpers.listed, helpers.tupled, helpers.mixed):
            for times in (0, 1, 10 ** 12):
                self.assertIs(is_house(apply_repeated(form(L), form(TURN), times)), True)

    def test_conventions(self):
        for house, slide in ((L, TURN), (L, (1, "start", 0, "backward")), (YARD, (5, "start", 3, "forward"))):
            helpers.check_conventions(self, period, house=house, slide=slide)
            for times in (0, 1, 2, 10 ** 12):
                helpers.check_conventions(self, apply_repeated, house=house, slide=slide, times=times)


class PeriodTest(unittest.TestCase):
    def test_random_houses(self):
        found = set()
        for house in sample_houses(4, 60):
            for slide in loop_slides(house):
                times = period(house, slide)
                self.assertEqual(times, period_by_hand(house, slide))
                found.add(times)
        self.assertEqual(found, {1, 2, 3, 4})

    def test_times_in_steps_of_the_period(self):
        chance = random.Random(5)
        for house in sample_houses(6, 20):
            for slide in loop_slides(house):
                times = period(house, slide)
                self.assertEqual(apply_repeated(house, slide, times), house)
                self.assertEqual(apply_repeated(house, slide, times * chance.randrange(10 ** 9)), house)
                for fewer in range(1, times):
                    self.assertNotEqual(apply_repeated(house, slide, fewer), house)


class ErrorsTest(unittest.TestCase):
    def raised(self, error, fields, house, slide):
        for form in (tuple, list):
            for times in (0, 1, 2, 10 ** 12):
                helpers.check_raised(self, error, fields, apply_repeated, house, form(slide), times)
            helpers.check_raised(self, error, fields, period, house, form(slide))
            helpers.check_raised(self, error, fields, period, slide=form(slide), house=helpers.listed(house))

    def test_every_slide(self):
        for house in [H, L, YARD] + helpers.random_houses(7, 20, most_rooms=3):
            many = len(house[2])
            for slide in itertools.product(range(many), SIDES, range(many), DIRECTIONS):
                index, side, older, direction = slide
                start, end, _ = house[2][older]
                begins = start if direction == "forward" else end
                if older >= index:
                    self.raised(NotOlder, {"older": older}, house, slide)
                elif house[2][index][SIDES.index(side)] != begins:
                    self.raised(WrongRoom, {"room": begins}, house, slide)
                elif start != end:
                    self.raised(NotLoop, {"older": older}, house, slide)
                else:
                    self.assertEqual(apply_repeated(house, slide, 1), helpers.slid(house, slide))

    def test_unknown_passage(self):
        for number in NUMBERS:
            if number not in (0, 1):
                self.raised(UnknownPassage, {"index": number}, L, (number, "end", 0, "forward"))
                self.raised(UnknownPassage, {"index": number}, L, (1, "end", number, "forward"))
                self.raised(UnknownPassage, {"index": number}, L, (number, "end", 77, "forward"))
            self.raised(UnknownPassage, {"index": number}, (1, 1, ()), (number, "start", 0, "backward"))

    def test_not_a_loop_comes_last(self):
        self.raised(NotLoop, {"older": 0}, H, S)
        self.raised(WrongRoom, {"room": 0}, H, (1, "start", 0, "forward"))
        self.raised(NotOlder, {"older": 1}, H, (0, "start", 1, "backward"))
        self.raised(UnknownPassage, {"index": 2}, H, (2, "start", 0, "forward"))
        self.raised(UnknownPassage, {"index": -1}, H, (1, "start", -1, "backward"))

    def test_arguments_stay_when_an_error_is_raised(self):
        house, slide = helpers.listed(H), list(S)
        self.assertRaises(NotLoop, apply_repeated, house, slide, 3)
        self.assertEqual((house, slide), (helpers.listed(H), list(S)))


if __name__ == "__main__":
    unittest.main()
