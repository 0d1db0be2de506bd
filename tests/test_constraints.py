"""Points 1, 2, 3, 9 and 14: the functions of constraints.py."""

import itertools
import random
import unittest

from elderways.canonical import canonical
from elderways.constraints import first_match, matching_count, options
from elderways.counting import number_of, reachable_at, reachable_count
from elderways.errors import NoMatch
from elderways.houses import is_house
from elderways.positions import positions
from tests import helpers
from tests.helpers import H, R, T

SAME = (0, 1, 2)
YARD = (4, 3, ((1, 0, R), (0, 0, R), (3, 2, (1, 0, 2)), (1, 3, SAME)))


class ExamplesTest(unittest.TestCase):
    """The examples of point 14, as written."""

    def test_matching_count(self):
        self.assertEqual(matching_count(H, [(1, 0, None, None)]), 1)

    def test_first_match(self):
        expected = (3, 3, ((0, 1, (1, 2, 0)), (1, 2, (0, 1, 2))))
        self.assertEqual(first_match(H, [(1, 1, None, None)]), expected)

    def test_options(self):
        self.assertEqual(options(H, 1), ([0, 1], [2], [(0, 1, 2), (1, 2, 0)]))


def meets_by_hand(passage, constraint):
    """Read point 14 word by word: the passage has these values; None allows any value."""
    return all(wanted is None or wanted == value for wanted, value in zip(constraint[1:], passage))


def masked(chance, index, passage):
    """Return a constraint with some of the passage's values."""
    return (index, *[chance.choice((None, value)) for value in passage])


def random_constraints(chance, house):
    """Return constraints on some passages, which may or may not be met, in any order."""
    chosen = [index for index in range(len(house[2])) if chance.random() < 0.7]
    chance.shuffle(chosen)
    constraints = []
    for index in chosen:
        passage = house[2][index] if chance.random() < 0.5 else helpers.random_passage(chance, house[0], house[1])
        constraints.append(masked(chance, index, passage))
    return constraints


class ConstraintsTest(unittest.TestCase):
    def check(self, house, constraints, fixed, reached):
        """Hold the two functions against the list of all reachable houses."""
        matching = [
            found for found in reached
            if all(meets_by_hand(found[2][constraint[0]], constraint) for constraint in constraints)
        ]
        self.assertEqual(matching_count(house, constraints, fixed), len(matching))
        if matching:
            self.assertEqual(first_match(house, constraints, fixed), matching[0])
            return True
        alone = [
            constraint[0] for constraint in constraints
            if not any(meets_by_hand(found[2][constraint[0]], constraint) for found in reached)
        ]
        helpers.check_raised(self, NoMatch, {"index": min(alone)}, first_match, house, constraints, fixed)
        return False

    def test_random_houses(self):
        chance = random.Random(1)
        outcomes = []
        for house in [H, T, YARD, (1, 1, ())] + helpers.random_houses(2, 60):
            for fixed in helpers.some_fixed(house):
                reached = helpers.reachable_by_hand(house, fixed, 600)
                if reached is not None:
                    self.check(house, [], fixed, reached)
                    outcomes += [self.check(house, random_constraints(chance, house), fixed, reached) for _ in range(8)]
        self.assertGreater(outcomes.count(True), 100)
        self.assertGreater(outcomes.count(False), 100)

    def test_every_constraint_on_one_passage(self):
        for house in (H, (2, 2, ((0, 0, (1, 0)), (0, 1, (0, 1))))):
            rooms, values = [None, *range(house[0])], [None, *itertools.permutations(range(house[1]))]
            for fixed in helpers.all_fixed(house):
                reached = helpers.reachable_by_hand(house, fixed)
                for index, start, end, permutation in itertools.product(range(2), rooms, rooms, values):
                    self.check(house, [(index, start, end, permutation)], fixed, reached)

    def test_no_constraint_and_no_value(self):
        for house in [H, YARD, (1, 1, ())] + helpers.random_houses(3, 20):
            free = [(index, None, None, None) for index in range(len(house[2]))]
            for fixed in helpers.some_fixed(house):
                for constraints in ([], free, free[::-1], free[1:]):
                    self.assertEqual(matching_count(house, constraints, fixed), reachable_count(house, fixed))
                    self.assertEqual(first_match(house, constraints, fixed), canonical(house, fixed))

    def test_no_passage_one_room_one_item(self):
        self.assertEqual(matching_count((1, 1, ()), []), 1)
        self.assertEqual(first_match((1, 1, ()), []), (1, 1, ()))
        house = (1, 1, ((0, 0, (0,)),) * 12)
        every = [(index, 0, 0, (0,)) for index in range(12)]
        self.assertEqual(matching_count(house, every), 1)
        self.assertEqual(first_match(house, every), house)
        loops = (1, 3, ((0, 0, R), (0, 0, (1, 0, 2))))
        self.assertEqual(matching_count(loops, [(1, 0, None, None)]), 3)
        self.assertEqual(first_match(loops, [(1, None, 0, (2, 1, 0))]), (1, 3, ((0, 0, R), (0, 0, (2, 1, 0)))))
        helpers.check_raised(self, NoMatch, {"index": 1}, first_match, loops, [(1, None, None, R)])

    def test_each_single_value(self):
        # The youngest passage of the yard: start 0 or 1, end 2 or 3, and three permutations at each pair.
        for constraint, count in (
            ((3, 0, None, None), 6), ((3, None, 2, None), 6), ((3, 1, 3, None), 3), ((3, None, None, SAME), 2),
            ((3, None, 0, None), 0), ((3, 2, None, None), 0), ((3, 1, 3, SAME), 1), ((3, 1, 3, (1, 0, 2)), 0),
        ):
            self.assertEqual(matching_count(YARD, [constraint], (0, 1, 2)), count)
            self.assertEqual(matching_count(YARD, [constraint]), count * reachable_count(YARD, (3,)))

    def test_room_zero_is_a_value(self):
        self.assertEqual(matching_count(H, [(1, 0, None, None)]), 1)
        self.assertEqual(matching_count(H, [(1, None, 0, None)]), 0)
        self.assertEqual(first_match(H, [(1, 0, None, None)]), T)
        self.assertEqual(matching_count(H, [(0, 0, None, None), (1, 0, 2, R)]), 1)

    def test_fixed_passages_have_only_their_own_values(self):
        for fixed in ((1,), (0, 1)):
            self.assertEqual(matching_count(H, [(1, 1, 2, SAME)], fixed), 1)
            self.assertEqual(first_match(H, [(1, 1, None, None)], fixed), H)
            self.assertEqual(matching_count(H, [(1, 0, None, None)], fixed), 0)
            helpers.check_raised(self, NoMatch, {"index": 1}, first_match, H, [(1, 0, None, None)], fixed)
            self.assertEqual(first_match(H, [], fixed), H)
        self.assertEqual(first_match(H, [(1, 0, None, None)], (0,)), T)

    def test_the_smallest_index_that_cannot_match(self):
        wrong = [(index, 2, 0, None) for index in (3, 2, 1, 0)]
        fit = [(2, 3, 2, None), (3, None, None, None)]
        helpers.check_raised(self, NoMatch, {"index": 0}, first_match, YARD, wrong)
        helpers.check_raised(self, NoMatch, {"index": 1}, first_match, YARD, wrong[:3])
        helpers.check_raised(self, NoMatch, {"index": 2}, first_match, YARD, wrong[:2])
        helpers.check_raised(self, NoMatch, {"index": 1}, first_match, YARD, fit + wrong[2:3])
        self.assertEqual(matching_count(YARD, wrong), 0)
        self.assertEqual(matching_count(YARD, fit + wrong[2:3]), 0)

    def test_twelve_constraints_at_the_full_size(self):
        chance = random.Random(4)
        for house in helpers.full_houses(5, 2):
            for fixed in ((), (0, 5, 11)):
                count = reachable_count(house, fixed)
                target = reachable_at(house, chance.randrange(count), fixed)
                parts = [positions(house, index) for index in range(12)]
                for index in fixed:
                    parts[index] = [house[2][index]]
                constraints = [masked(chance, index, target[2][index]) for index in range(12)]
                expected, least = 1, []
                for part, constraint in zip(parts, constraints):
                    matching = [passage for passage in part if meets_by_hand(passage, constraint)]
                    expected *= len(matching)
                    least.append(matching[0])
                self.assertEqual(matching_count(house, constraints, fixed), expected)
                self.assertEqual(first_match(house, constraints[::-1], fixed), (8, 4, tuple(least)))
                exact = [(index, *target[2][index]) for index in range(12)]
                self.assertEqual(matching_count(house, exact, fixed), 1)
                self.assertEqual(first_match(house, exact, fixed), target)
                self.assertEqual(matching_count(house, [], fixed), count)

    def test_fixed_left_out_and_given(self):
        constraints = [(1, None, 2, None)]
        self.assertEqual(matching_count(H, constraints), matching_count(fixed=[], constraints=constraints, house=H))
        self.assertEqual(first_match(H, constraints), first_match(constraints=constraints, house=H, fixed=()))

    def test_conventions(self):
        for house in (H, YARD):
            for constraints in ([], [(1, *house[2][1])], [(1, None, None, house[2][1][2]), (0, None, None, None)]):
                for fixed in helpers.some_fixed(house):
                    given = {"house": house, "constraints": constraints, "fixed": fixed}
                    helpers.check_conventions(self, matching_count, **given)
                    helpers.check_conventions(self, first_match, **given)
                helpers.check_conventions(self, first_match, house=house, constraints=constraints)

    def test_results_are_houses(self):
        for form in (helpers.listed, helpers.tupled, helpers.mixed):
            for fixed in ((), (1,), (0, 1)):
                found = first_match(form(H), form([(1, 1, 2, SAME)]), form(fixed))
                self.assertIs(is_house(found), True)
                self.assertEqual(found, H)

    def test_beyond_the_limits(self):
        house = (12, 6, ((0, 11, (1, 2, 3, 4, 5, 0)),) * 15)
        constraints = [(index, 11, None, None) for index in range(1, 15)]
        self.assertEqual(matching_count(house, constraints), 2 ** 14)
        helpers.check_raised(self, NoMatch, {"index": 0}, first_match, house, constraints + [(0, 11, None, None)])


class OptionsTest(unittest.TestCase):
    def test_random_houses(self):
        for house in [H, T, YARD] + helpers.random_houses(6, 60):
            for index in range(len(house[2])):
                known = helpers.least_slides_alone(house, index)
                expected = tuple(sorted({passage[place] for passage in known}) for place in range(3))
                own = tuple([value] for value in house[2][index])
                for fixed in helpers.some_fixed(house):
                    self.assertEqual(options(house, index, fixed), own if index in fixed else expected)

    def test_full_size(self):
        house = helpers.full_houses(7, 1)[0]
        for index in range(12):
            found = positions(house, index)
            expected = tuple(sorted({passage[place] for passage in found}) for place in range(3))
            self.assertEqual(options(house, index), expected)
            self.assertEqual(options(house, index, (index,)), tuple([value] for value in house[2][index]))

    def test_edges(self):
        self.assertEqual(options((1, 1, ((0, 0, (0,)),)), 0), ([0], [0], [(0,)]))
        self.assertEqual(options((1, 3, ((0, 0, R), (0, 0, SAME))), 1), ([0], [0], [SAME, R, (2, 0, 1)]))
        self.assertEqual(options(YARD, 3), ([0, 1], [2, 3], sorted(itertools.permutations(range(3)))))
        self.assertEqual(options(YARD, 3, (0, 1, 2)), options(YARD, 3))
        self.assertEqual(options(YARD, 3, (3,)), ([1], [3], [SAME]))

    def test_no_two_lists_are_the_same(self):
        for fixed in ((), (0,)):
            found = options((1, 1, ((0, 0, (0,)),)), 0, fixed)
            for part in found:
                part.append("changed")
            self.assertEqual(found, ([0, "changed"], [0, "changed"], [(0,), "changed"]))
            self.assertEqual(options((1, 1, ((0, 0, (0,)),)), 0, fixed), ([0], [0], [(0,)]))

    def test_conventions(self):
        for house, index in ((H, 0), (H, 1), (YARD, 3)):
            helpers.check_conventions(self, options, house=house, index=index)
            for fixed in helpers.some_fixed(house):
                helpers.check_conventions(self, options, house=house, index=index, fixed=fixed)


class GuaranteesTest(unittest.TestCase):
    """Point 1: constraints can be met together if and only if each can be met alone."""

    def test_together_and_alone(self):
        chance = random.Random(8)
        outcomes = []
        for house in helpers.random_houses(9, 120) + helpers.full_houses(10, 2):
            fixed = chance.choice(helpers.some_fixed(house))
            constraints = random_constraints(chance, house)
            together = matching_count(house, constraints, fixed) > 0
            alone = [matching_count(house, [constraint], fixed) > 0 for constraint in constraints]
            self.assertIs(together, all(alone))
            outcomes.append(together)
        self.assertGreater(outcomes.count(True), 20)
        self.assertGreater(outcomes.count(False), 20)

    def test_first_match_has_the_least_number(self):
        chance = random.Random(11)
        for house in helpers.full_houses(12, 2):
            number = chance.randrange(reachable_count(house))
            target = reachable_at(house, number)
            constraints = [masked(chance, index, target[2][index]) for index in range(0, 12, 2)]
            found = number_of(house, first_match(house, constraints))
            self.assertLessEqual(found, number)


if __name__ == "__main__":
    unittest.main()
