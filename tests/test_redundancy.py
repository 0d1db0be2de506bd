"""Points 1, 2, 3 and 15: the functions of redundancy.py."""

import random
import unittest

from elderways.components import components
from elderways.counting import all_reachable, reachable_count
from elderways.houses import is_house
from elderways.positions import position_count, positions
from elderways.redundancy import (
    is_redundant, loop_growth, redundant_passages, widened, with_passage, without_passage,
)
from elderways.slides import apply_slide, possible_slides
from elderways.walks import loop_count, permutations_between
from tests import helpers
from tests.helpers import H, R, T

SAME = (0, 1, 2)
SWAP = (1, 0, 2)
# Passage 1 has the effect of passage 0 backward, 3 that of a walk around the loop 2; 4 is new.
YARD = (3, 3, ((0, 1, R), (1, 0, (2, 0, 1)), (1, 1, R), (0, 1, (2, 0, 1)), (0, 0, SWAP)))


class ExamplesTest(unittest.TestCase):
    """The examples of point 15, as written."""

    def test_is_redundant(self):
        self.assertIs(is_redundant(H, 1), False)

    def test_redundant_passages(self):
        self.assertEqual(redundant_passages((1, 2, ((0, 0, (0, 1)),))), [0])

    def test_without_passage(self):
        self.assertEqual(without_passage(H, 1), (3, 3, ((0, 1, (1, 2, 0)),)))

    def test_with_passage(self):
        self.assertEqual(with_passage((1, 1, ()), 0, (0, 0, (0,))), (1, 1, ((0, 0, (0,)),)))

    def test_widened(self):
        self.assertEqual(widened(H, 0, (2, 2, (1, 0, 2))), [1])

    def test_loop_growth(self):
        self.assertEqual(loop_growth((1, 2, ((0, 0, (1, 0)),)), 0), [(0, 2)])


def is_redundant_by_hand(house, index):
    """Read point 15 word by word."""
    start, end, permutation = house[2][index]
    return (end, permutation) in helpers.least_steps(house, start, index)


def inserted(house, index, passage):
    """Return the house with one more passage at this index."""
    passages = list(house[2])
    passages.insert(index, passage)
    return house[0], house[1], tuple(passages)


def widened_by_hand(house, index, passage):
    """Read point 15 word by word."""
    after = inserted(house, index, passage)
    found = []
    for place in range(len(house[2])):
        later = place + 1 if place >= index else place
        before = helpers.least_slides_alone(house, place)
        if len(helpers.least_slides_alone(after, later)) > len(before):
            found.append(place)
    return found


def loop_growth_by_hand(house, room):
    """Read point 15 word by word."""
    loops = [
        len([reached for reached, _ in helpers.least_steps(house, room, count) if reached == room])
        for count in range(len(house[2]) + 1)
    ]
    return [(index, loops[index + 1]) for index in range(len(house[2])) if loops[index + 1] > loops[index]]


class RedundantTest(unittest.TestCase):
    def test_random_houses(self):
        outcomes = []
        for house in [H, T, YARD, (1, 1, ())] + helpers.random_houses(1, 100):
            expected = [index for index in range(len(house[2])) if is_redundant_by_hand(house, index)]
            self.assertEqual(redundant_passages(house), expected)
            for index in range(len(house[2])):
                self.assertIs(is_redundant(house, index), index in expected)
                outcomes.append(index in expected)
        self.assertGreater(outcomes.count(True), 30)
        self.assertGreater(outcomes.count(False), 30)

    def test_full_size(self):
        for house in helpers.full_houses(2, 2):
            expected = [index for index in range(12) if is_redundant_by_hand(house, index)]
            self.assertEqual(redundant_passages(house), expected)

    def test_edges(self):
        self.assertEqual(redundant_passages((1, 1, ())), [])
        self.assertEqual(redundant_passages((1, 1, ((0, 0, (0,)),) * 12)), list(range(12)))
        self.assertEqual(redundant_passages((1, 3, ((0, 0, R), (0, 0, R), (0, 0, SWAP), (0, 0, (2, 1, 0))))), [1, 3])
        self.assertEqual(redundant_passages((2, 1, ((0, 1, (0,)), (1, 0, (0,)), (0, 0, (0,))))), [1, 2])
        self.assertEqual(redundant_passages(YARD), [1, 3])

    def test_only_older_passages_count(self):
        house = (2, 3, ((0, 1, R), (0, 1, R)))
        self.assertEqual(redundant_passages(house), [1])
        self.assertIs(is_redundant(house, 0), False)

    def test_the_permutation_counts(self):
        for permutation in ((1, 2, 0), (2, 0, 1), SAME, SWAP):
            self.assertIs(is_redundant((2, 3, ((0, 1, R), (0, 1, permutation))), 1), permutation == R)
            self.assertIs(is_redundant((2, 3, ((0, 1, R), (1, 0, permutation))), 1), permutation == (2, 0, 1))

    def test_conventions(self):
        for house in (H, YARD):
            helpers.check_conventions(self, redundant_passages, house=house)
            for index in range(len(house[2])):
                helpers.check_conventions(self, is_redundant, house=house, index=index)
        helpers.check_conventions(self, redundant_passages, house=(1, 1, ()))

    def test_a_changed_result_changes_no_later_answer(self):
        found = redundant_passages(YARD)
        found.append(9)
        self.assertEqual(redundant_passages(YARD), [1, 3])


class WithoutAndWithTest(unittest.TestCase):
    def test_without(self):
        for house in [H, YARD] + helpers.random_houses(3, 20) + helpers.full_houses(4, 1):
            for index in range(len(house[2])):
                passages = list(house[2])
                del passages[index]
                self.assertEqual(without_passage(house, index), (house[0], house[1], tuple(passages)))

    def test_with(self):
        chance = random.Random(5)
        for house in [(1, 1, ()), H, YARD] + helpers.random_houses(6, 20):
            for index in range(len(house[2]) + 1):
                passage = helpers.random_passage(chance, house[0], house[1])
                found = with_passage(house, index, passage)
                self.assertEqual(found, inserted(house, index, passage))
                self.assertEqual(without_passage(found, index), house)

    def test_ends(self):
        new = (2, 2, SWAP)
        self.assertEqual(with_passage(H, 0, new), (3, 3, (new, *H[2])))
        self.assertEqual(with_passage(H, 1, new), (3, 3, (H[2][0], new, H[2][1])))
        self.assertEqual(with_passage(H, 2, new), (3, 3, (*H[2], new)))
        self.assertEqual(without_passage(H, 0), (3, 3, (H[2][1],)))
        self.assertEqual(without_passage((1, 1, ((0, 0, (0,)),)), 0), (1, 1, ()))

    def test_thirteen_passages(self):
        house = helpers.full_houses(7, 1)[0]
        self.assertEqual(len(with_passage(house, 12, house[2][0])[2]), 13)

    def test_results_are_houses(self):
        for form in (helpers.listed, helpers.tupled, helpers.mixed):
            self.assertIs(is_house(with_passage(form(H), 1, form((2, 2, SWAP)))), True)
            self.assertIs(is_house(without_passage(form(H), 1)), True)

    def test_conventions(self):
        for index in (0, 1, 2):
            helpers.check_conventions(self, with_passage, house=H, index=index, passage=(2, 2, SWAP))
        for index in (0, 1):
            helpers.check_conventions(self, without_passage, house=H, index=index)


class WidenedTest(unittest.TestCase):
    def test_random_insertions(self):
        chance = random.Random(8)
        outcomes = []
        for house in [H, T, YARD, (1, 1, ())] + helpers.random_houses(9, 60):
            for index in range(len(house[2]) + 1):
                passage = helpers.random_passage(chance, house[0], house[1])
                expected = widened_by_hand(house, index, passage)
                self.assertEqual(widened(house, index, passage), expected)
                outcomes.append(expected)
        self.assertGreater(outcomes.count([]), 20)
        self.assertGreater(len([found for found in outcomes if len(found) > 1]), 20)

    def test_indices_before_the_insertion(self):
        house = (3, 1, ((0, 0, (0,)), (0, 0, (0,)), (1, 1, (0,)), (2, 2, (0,))))
        self.assertEqual(widened(house, 0, (0, 1, (0,))), [0, 1, 2])
        self.assertEqual(widened(house, 1, (0, 1, (0,))), [1, 2])
        self.assertEqual(widened(house, 3, (2, 1, (0,))), [3])
        self.assertEqual(widened(house, 4, (2, 1, (0,))), [])

    def test_a_redundant_passage_widens_none(self):
        for house in [YARD] + helpers.random_houses(10, 60):
            for index in redundant_passages(house):
                self.assertEqual(widened(without_passage(house, index), index, house[2][index]), [])

    def test_no_passage(self):
        self.assertEqual(widened((1, 1, ()), 0, (0, 0, (0,))), [])

    def test_permutations_widen_too(self):
        house = (1, 3, ((0, 0, SAME), (0, 0, R)))
        self.assertEqual(widened(house, 0, (0, 0, SWAP)), [0, 1])
        self.assertEqual(widened(house, 1, (0, 0, SAME)), [])

    def test_full_size(self):
        house = helpers.full_houses(11, 1)[0]
        passage, house = house[2][4], without_passage(house, 4)
        after = with_passage(house, 4, passage)
        expected = [place for place in range(4, 11) if positions(after, place + 1) != positions(house, place)]
        self.assertEqual(widened(house, 4, passage), expected)
        self.assertNotEqual(expected, [])

    def test_conventions(self):
        for index in (0, 1, 2):
            helpers.check_conventions(self, widened, house=H, index=index, passage=(2, 2, SWAP))
        found = widened(H, 0, (2, 2, SWAP))
        found.clear()
        self.assertEqual(widened(H, 0, (2, 2, SWAP)), [1])


class LoopGrowthTest(unittest.TestCase):
    def test_random_houses(self):
        longest = 0
        for house in [H, T, YARD, (1, 1, ())] + helpers.random_houses(12, 60):
            for room in range(house[0]):
                expected = loop_growth_by_hand(house, room)
                self.assertEqual(loop_growth(house, room), expected)
                longest = max(longest, len(expected))
        self.assertGreater(longest, 1)

    def test_full_size(self):
        for house in helpers.full_houses(13, 1):
            for room in (0, 7):
                self.assertEqual(loop_growth(house, room), loop_growth_by_hand(house, room))

    def test_edges(self):
        self.assertEqual(loop_growth((1, 1, ()), 0), [])
        self.assertEqual(loop_growth((1, 1, ((0, 0, (0,)),)), 0), [])
        self.assertEqual(loop_growth((1, 3, ((0, 0, R), (0, 0, R), (0, 0, SWAP), (0, 0, SWAP))), 0), [(0, 3), (2, 6)])
        # A loop in another room counts as soon as the rooms are connected.
        house = (2, 2, ((1, 1, (1, 0)), (0, 0, (0, 1)), (0, 1, (0, 1))))
        self.assertEqual(loop_growth(house, 0), [(2, 2)])
        self.assertEqual(loop_growth(house, 1), [(0, 2)])

    def test_pairs_agree_with_loop_count(self):
        for house in [YARD] + helpers.random_houses(14, 30):
            for room in range(house[0]):
                found = loop_growth(house, room)
                self.assertEqual(sorted(set(found)), found)
                for index, loops in found:
                    self.assertEqual(loops, loop_count(house, room, index + 1))
                    self.assertGreater(loops, loop_count(house, room, index))
                last = found[-1][1] if found else 1
                self.assertEqual(loop_count(house, room, len(house[2])), last)

    def test_conventions(self):
        for house in (H, YARD):
            helpers.check_conventions(self, loop_growth, house=house, room=0)
        found = loop_growth(YARD, 0)
        found.clear()
        self.assertEqual(loop_growth(YARD, 0), [(2, 3), (4, 6)])


class GuaranteesTest(unittest.TestCase):
    """Point 1: removing a redundant passage changes nothing for the other passages."""

    def test_positions_of_the_others(self):
        removed = 0
        for house in [YARD] + helpers.random_houses(15, 60) + helpers.full_houses(16, 1):
            for index in redundant_passages(house):
                removed += 1
                without = without_passage(house, index)
                for place in range(len(without[2])):
                    before = place if place < index else place + 1
                    self.assertEqual(positions(without, place), positions(house, before))
                    self.assertIs(is_redundant(without, place), is_redundant(house, before))
                self.assertEqual(reachable_count(without) * position_count(house, index), reachable_count(house))
        self.assertGreater(removed, 30)

    def test_walks_and_components(self):
        for house in [YARD] + helpers.random_houses(17, 40, most_rooms=3):
            for index in redundant_passages(house):
                without = without_passage(house, index)
                for count in range(index, len(without[2]) + 1):
                    self.assertEqual(components(without, count), components(house, count + 1))
                    for start in range(house[0]):
                        found = permutations_between(without, start, 0, count)
                        self.assertEqual(found, permutations_between(house, start, 0, count + 1))

    def test_reachable_houses(self):
        for house in [YARD] + helpers.random_houses(18, 40):
            if reachable_count(house) <= 600:
                for index in redundant_passages(house):
                    found = {without_passage(new, index) for new in all_reachable(house)}
                    self.assertEqual(found, set(all_reachable(without_passage(house, index))))

    def test_slides_keep_passages_redundant(self):
        for house in [YARD] + helpers.random_houses(19, 30):
            for slide in possible_slides(house)[:8]:
                self.assertEqual(redundant_passages(apply_slide(house, slide)), redundant_passages(house))


if __name__ == "__main__":
    unittest.main()
