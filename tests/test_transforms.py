"""Points 1, 2, 3 and 17: the functions of transforms.py."""

import itertools
import random
import unittest

from elderways.counting import reachable_count
from elderways.errors import ShapeMismatch
from elderways.houses import follow, is_house
from elderways.positions import positions
from elderways.redundancy import redundant_passages
from elderways.transforms import combine, flip, relabel, rename_rooms
from tests import helpers
from tests.helpers import H, R, T

SAME = (0, 1, 2)
SWAP = (1, 0, 2)
YARD = (4, 3, ((0, 1, R), (1, 1, SWAP), (2, 1, (0, 2, 1)), (0, 3, SAME)))


class ExamplesTest(unittest.TestCase):
    """The examples of point 17, as written."""

    def test_rename_rooms(self):
        self.assertEqual(rename_rooms(H, [2, 1, 0]), (3, 3, ((2, 1, (1, 2, 0)), (1, 0, (0, 1, 2)))))

    def test_relabel(self):
        self.assertEqual(relabel((1, 3, ((0, 0, (1, 2, 0)),)), (1, 0, 2)), (1, 3, ((0, 0, (2, 0, 1)),)))

    def test_flip(self):
        self.assertEqual(flip(H, 0), (3, 3, ((1, 0, (2, 0, 1)), (1, 2, (0, 1, 2)))))

    def test_combine(self):
        one = (1, 1, ((0, 0, (0,)),))
        self.assertEqual(combine(one, one, (1,)), (2, 1, ((1, 1, (0,)), (0, 0, (0,)))))


def sample_houses(seed, many):
    """Return houses of many shapes, small and of the full size."""
    return [H, T, YARD, (1, 1, ())] + helpers.random_houses(seed, many) + helpers.full_houses(seed, 2)


class RenameRoomsTest(unittest.TestCase):
    def test_every_mapping(self):
        for house in [H, (1, 1, ()), (2, 2, ((0, 1, (1, 0)), (1, 1, (0, 1))))]:
            for mapping in itertools.permutations(range(house[0])):
                found = rename_rooms(house, list(mapping))
                self.assertEqual(found[:2], house[:2])
                for before, after in zip(house[2], found[2]):
                    self.assertEqual(after, (mapping[before[0]], mapping[before[1]], before[2]))

    def test_random_mappings(self):
        chance = random.Random(1)
        for house in sample_houses(2, 30):
            mapping = chance.sample(range(house[0]), house[0])
            found = rename_rooms(house, mapping)
            self.assertIs(is_house(found), True)
            self.assertEqual(len(found[2]), len(house[2]))
            back = [mapping.index(room) for room in range(house[0])]
            self.assertEqual(rename_rooms(found, back), house)
            self.assertEqual(rename_rooms(house, list(range(house[0]))), house)

    def test_no_swap(self):
        # With a mapping of order 3, the numbers of the rooms cannot be taken the other way.
        self.assertEqual(rename_rooms(H, [1, 2, 0])[2], ((1, 2, R), (2, 0, SAME)))

    def test_conventions(self):
        for house in (H, YARD):
            mapping = [*range(1, house[0]), 0]
            helpers.check_conventions(self, rename_rooms, house=house, mapping=mapping)
        self.assertEqual(rename_rooms((1, 1, ()), [0]), (1, 1, ()))


class RelabelTest(unittest.TestCase):
    def test_every_item_has_its_new_place(self):
        chance = random.Random(3)
        for house in sample_houses(4, 30):
            labels = helpers.random_permutation(chance, house[1])
            found = relabel(house, labels)
            self.assertEqual(found[:2], house[:2])
            self.assertEqual(len(found[2]), len(house[2]))
            for before, after in zip(house[2], found[2]):
                self.assertEqual(after[:2], before[:2])
                for item in range(house[1]):
                    self.assertEqual(after[2][labels[item]], labels[before[2][item]])

    def test_every_permutation(self):
        for labels in itertools.permutations(range(3)):
            expected = helpers.then(helpers.then(helpers.undoing(labels), R), labels)
            self.assertEqual(relabel((1, 3, ((0, 0, R),)), labels), (1, 3, ((0, 0, expected),)))
        self.assertEqual(relabel((1, 3, ((0, 0, SWAP),)), R), (1, 3, ((0, 0, (0, 2, 1)),)))
        self.assertEqual(relabel(YARD, SAME), YARD)

    def test_walks_follow(self):
        chance = random.Random(5)
        for house in [YARD] + helpers.random_houses(6, 20):
            labels = helpers.random_permutation(chance, house[1])
            walk = helpers.random_walk(chance, house, 0, 12)
            room, permutation = follow(house, 0, walk)
            expected = helpers.then(helpers.then(helpers.undoing(labels), permutation), labels)
            self.assertEqual(follow(relabel(house, labels), 0, walk), (room, expected))

    def test_conventions(self):
        for house in (H, YARD):
            helpers.check_conventions(self, relabel, house=house, permutation=R)
        self.assertEqual(relabel((1, 1, ()), (0,)), (1, 1, ()))


class FlipTest(unittest.TestCase):
    def test_random_houses(self):
        for house in sample_houses(7, 30):
            for index, (start, end, permutation) in enumerate(house[2]):
                found = flip(house, index)
                expected = list(house[2])
                expected[index] = (end, start, helpers.undoing(permutation))
                self.assertEqual(found, (house[0], house[1], tuple(expected)))
                self.assertEqual(flip(found, index), house)

    def test_loop(self):
        self.assertEqual(flip((1, 3, ((0, 0, R),)), 0), (1, 3, ((0, 0, (2, 0, 1)),)))
        self.assertEqual(flip((1, 3, ((0, 0, SWAP),)), 0), (1, 3, ((0, 0, SWAP),)))

    def test_conventions(self):
        for house in (H, YARD):
            for index in range(len(house[2])):
                helpers.check_conventions(self, flip, house=house, index=index)


def combined_by_hand(first, second, indices):
    """Read point 17 word by word."""
    passages = []
    left, others = list(first[2]), [(start + first[0], end + first[0], own) for start, end, own in second[2]]
    for index in range(len(first[2]) + len(second[2])):
        passages.append(left.pop(0) if index in indices else others.pop(0))
    return first[0] + second[0], first[1], tuple(passages)


class CombineTest(unittest.TestCase):
    def test_every_choice_of_indices(self):
        second = (2, 3, ((1, 0, SWAP), (1, 1, (0, 2, 1)), (0, 0, SAME)))
        for first in (H, (3, 3, ()), (1, 3, ((0, 0, R),)), YARD):
            many = len(first[2])
            for one, other in ((first, second), (first, first), (first, (1, 3, ()))):
                for indices in itertools.combinations(range(many + len(other[2])), many):
                    found = combine(one, other, indices)
                    self.assertEqual(found, combined_by_hand(one, other, indices))
                    self.assertIs(is_house(found), True)

    def test_random_houses(self):
        chance = random.Random(8)
        for first in sample_houses(9, 30):
            second = helpers.random_house(chance, chance.randint(1, 8), first[1], chance.randint(0, 12))
            many = len(first[2]) + len(second[2])
            indices = tuple(sorted(chance.sample(range(many), len(first[2]))))
            self.assertEqual(combine(first, second, indices), combined_by_hand(first, second, indices))

    def test_no_passages(self):
        self.assertEqual(combine((2, 3, ()), (3, 3, ()), ()), (5, 3, ()))
        self.assertEqual(combine(H, (1, 3, ()), (0, 1)), (4, 3, H[2]))
        self.assertEqual(combine((1, 3, ()), H, ()), (4, 3, ((1, 2, R), (2, 3, SAME))))

    def test_different_sizes(self):
        for first, second, indices in (
            (H, (3, 2, ()), (0, 1)), ((3, 2, ()), H, ()), ((1, 1, ()), (1, 2, ()), ()),
            (H, (1, 4, ((0, 0, (0, 1, 2, 3)),)), (0, 2)),
        ):
            helpers.check_raised(self, ShapeMismatch, {}, combine, first, second, indices)
            helpers.check_raised(self, ShapeMismatch, {}, combine, helpers.listed(first), second, list(indices))

    def test_rooms_and_passages_may_differ(self):
        self.assertEqual(combine(H, (1, 3, ()), (0, 1))[0], 4)
        self.assertEqual(len(combine(H, YARD, (0, 1))[2]), 6)

    def test_conventions(self):
        for indices in ((0, 1), (1, 3), (4, 5)):
            helpers.check_conventions(self, combine, first=H, second=YARD, indices=indices)
        helpers.check_conventions(self, combine, first=H, second=(1, 3, ()), indices=(0, 1))


class GuaranteesTest(unittest.TestCase):
    """Transformed houses are houses: what they can become follows the transformation."""

    def test_rename_rooms(self):
        for house in [H, YARD] + helpers.random_houses(10, 20):
            mapping = [*range(1, house[0]), 0]
            found = rename_rooms(house, mapping)
            for index in range(len(house[2])):
                expected = [(mapping[start], mapping[end], own) for start, end, own in positions(house, index)]
                self.assertEqual(positions(found, index), sorted(expected))

    def test_flip(self):
        for house in [H, YARD] + helpers.random_houses(11, 20):
            for index in range(len(house[2])):
                found = flip(house, index)
                turned = [(end, start, helpers.undoing(own)) for start, end, own in positions(house, index)]
                self.assertEqual(positions(found, index), sorted(turned))
                for other in range(len(house[2])):
                    if other != index:
                        self.assertEqual(positions(found, other), positions(house, other))
                self.assertEqual(redundant_passages(found), redundant_passages(house))

    def test_combine(self):
        chance = random.Random(12)
        for first in [H, YARD] + helpers.random_houses(13, 20):
            second = helpers.random_house(chance, 3, first[1], 3)
            many = len(first[2]) + 3
            indices = tuple(sorted(chance.sample(range(many), len(first[2]))))
            found = combine(first, second, indices)
            self.assertEqual(reachable_count(found), reachable_count(first) * reachable_count(second))
            for place, index in enumerate(indices):
                self.assertEqual(positions(found, index), positions(first, place))


if __name__ == "__main__":
    unittest.main()
