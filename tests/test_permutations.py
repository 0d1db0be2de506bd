"""Points 2 to 4: the functions of permutations.py."""

import copy
import itertools
import unittest

from elderways.permutations import compose, identity, inverse, is_permutation, order, power

R = (1, 2, 0)
FAR = 10 ** 12


def all_permutations(most):
    """Return every permutation of one to `most` items."""
    return [items for size in range(1, most + 1) for items in itertools.permutations(range(size))]


def applied(permutation, times):
    """Move each item that many times, one step at a time."""
    places = list(range(len(permutation)))
    for _ in range(times):
        places = [permutation[place] for place in places]
    return tuple(places)


class ExamplesTest(unittest.TestCase):
    """The examples of point 4, as written."""

    def test_is_permutation(self):
        self.assertIs(is_permutation(2, (0, 0)), False)

    def test_identity(self):
        self.assertEqual(identity(3), (0, 1, 2))

    def test_compose(self):
        self.assertEqual(compose(R, (1, 0, 2)), (0, 2, 1))

    def test_inverse(self):
        self.assertEqual(inverse(R), (2, 0, 1))

    def test_order(self):
        self.assertEqual(order(R), 3)

    def test_power(self):
        self.assertEqual(power(R, -1), (2, 0, 1))


class IsPermutationTest(unittest.TestCase):
    def refused(self, size, *values):
        for value in values:
            with self.subTest(size=size, value=value):
                self.assertIs(is_permutation(size, value), False)

    def test_every_permutation_is_one(self):
        for items in all_permutations(5):
            self.assertIs(is_permutation(len(items), items), True)

    def test_every_other_tuple_is_none(self):
        for size in (1, 2, 3):
            right = set(itertools.permutations(range(size)))
            for length in range(size + 2):
                for items in itertools.product(range(-2, size + 2), repeat=length):
                    self.assertIs(is_permutation(size, items), items in right)

    def test_wrong_length(self):
        self.refused(2, (0,), (0, 1, 2), (1, 2, 0), ())
        self.refused(1, (0, 1), (0, 0), ())

    def test_repeated_item(self):
        self.refused(3, (0, 0, 1), (1, 2, 2), (0, 0, 0), (1, 1, 1))

    def test_item_out_of_range(self):
        self.refused(3, (0, 1, 3), (1, 2, 3), (0, 1, FAR))
        self.refused(1, (1,), (FAR,))

    def test_negative_item(self):
        self.refused(3, (0, 1, -1), (-1, -2, -3), (2, 1, -FAR))
        self.refused(1, (-1,))

    def test_booleans_are_no_integers(self):
        self.refused(2, (False, True), (True, False), (0, True), (False, 1), (True, 0), (1, False))
        self.refused(1, (False,), (True,))
        self.refused(3, (2, True, 0), (2, False, 1))

    def test_none_and_strings_and_integers(self):
        for size in (1, 2, 3):
            self.refused(size, None, True, False, 0, 1, 2, -1, FAR, "", "0", "01", "012")

    def test_items_that_are_no_integers(self):
        self.refused(1, (None,), ("0",), ("",), ((),), ([],), ((0,),), ([0],))
        self.refused(2, (0, None), ("0", "1"), (0, "1"), ("a", 1), (None, None), (0, (1,)), ([0], 1))

    def test_list_is_no_tuple(self):
        self.refused(1, [0])
        self.refused(2, [0, 1], [1, 0], [])
        self.refused(3, [1, 2, 0], [0, 0, 0])

    def test_nested(self):
        self.refused(1, ((((((((0,),),),),),),),), [[[[[[[[0]]]]]]]])
        self.refused(2, ((0, 1),), ((0, 1), (1, 0)), ([0, 1], [1, 0]), [(0, 1), (1, 0)], ((0, 1), None))

    def test_empty_tuple(self):
        for size in (0, 1, 2, 6):
            self.refused(size, ())

    def test_value_beyond_the_limits(self):
        many = 5000
        self.assertIs(is_permutation(many, tuple(range(many - 1, -1, -1))), True)
        self.refused(many, tuple(range(1, many + 1)), (0,) * many)
        self.refused(3, tuple(range(many)))

    def test_by_name(self):
        self.assertIs(is_permutation(size=3, value=R), True)
        self.assertIs(is_permutation(value=R, size=3), True)
        self.assertIs(is_permutation(value=R, size=2), False)
        self.assertIs(is_permutation(3, value=[1, 2, 0]), False)

    def test_value_is_not_changed(self):
        values = [[2, 0, 1], ([1], [0]), [[1, 0], [0, 1]], (2, 0, 1)]
        before = copy.deepcopy(values)
        for value in values:
            for size in (1, 2, 3):
                is_permutation(size, value)
        self.assertEqual(values, before)


class IdentityTest(unittest.TestCase):
    def test_sizes(self):
        expected = [(0,), (0, 1), (0, 1, 2), (0, 1, 2, 3), (0, 1, 2, 3, 4), (0, 1, 2, 3, 4, 5)]
        self.assertEqual([identity(size) for size in range(1, 7)], expected)

    def test_is_a_tuple(self):
        for size in range(1, 7):
            self.assertIs(type(identity(size)), tuple)

    def test_by_name(self):
        self.assertEqual(identity(size=4), (0, 1, 2, 3))


class ComposeTest(unittest.TestCase):
    def test_first_is_applied_first(self):
        self.assertEqual(compose((1, 0, 2), R), (2, 1, 0))
        self.assertEqual(compose(R, (1, 0, 2)), (0, 2, 1))

    def test_moves_each_item_twice(self):
        for size in (1, 2, 3, 4):
            every = list(itertools.permutations(range(size)))
            for first, second in itertools.product(every, every):
                result = compose(first, second)
                for place in range(size):
                    self.assertEqual(result[place], second[first[place]])

    def test_six_items(self):
        self.assertEqual(compose((1, 2, 3, 4, 5, 0), (1, 0, 2, 3, 4, 5)), (0, 2, 3, 4, 5, 1))
        self.assertEqual(compose((1, 0, 2, 3, 4, 5), (1, 2, 3, 4, 5, 0)), (2, 1, 3, 4, 5, 0))

    def test_identity_changes_nothing(self):
        for items in all_permutations(4):
            self.assertEqual(compose(items, identity(len(items))), items)
            self.assertEqual(compose(identity(len(items)), items), items)

    def test_by_name(self):
        self.assertEqual(compose(first=R, second=(1, 0, 2)), (0, 2, 1))
        self.assertEqual(compose(second=(1, 0, 2), first=R), (0, 2, 1))
        self.assertEqual(compose(R, second=(1, 0, 2)), (0, 2, 1))

    def test_lists(self):
        first, second = [1, 2, 0], [1, 0, 2]
        for result in (compose(first, second), compose(R, second), compose(first, (1, 0, 2))):
            self.assertEqual(result, (0, 2, 1))
            self.assertIs(type(result), tuple)
        self.assertEqual((first, second), ([1, 2, 0], [1, 0, 2]))

    def test_is_a_tuple(self):
        self.assertIs(type(compose(R, R)), tuple)


class InverseTest(unittest.TestCase):
    def test_moves_each_item_back(self):
        for items in all_permutations(5):
            result = inverse(items)
            for place, moved in enumerate(items):
                self.assertEqual(result[moved], place)
            self.assertEqual(len(result), len(items))

    def test_six_items(self):
        self.assertEqual(inverse((3, 0, 1, 5, 2, 4)), (1, 2, 4, 0, 5, 3))

    def test_by_name(self):
        self.assertEqual(inverse(permutation=R), (2, 0, 1))

    def test_list(self):
        items = [1, 2, 0]
        self.assertEqual(inverse(items), (2, 0, 1))
        self.assertIs(type(inverse(items)), tuple)
        self.assertEqual(items, [1, 2, 0])

    def test_is_a_tuple(self):
        self.assertIs(type(inverse(R)), tuple)


class OrderTest(unittest.TestCase):
    def test_is_the_least_number(self):
        for items in all_permutations(6):
            times = 1
            while applied(items, times) != tuple(range(len(items))):
                times += 1
            self.assertEqual(order(items), times)

    def test_identity_has_order_one(self):
        self.assertEqual([order(identity(size)) for size in range(1, 7)], [1] * 6)

    def test_cycles_of_several_lengths(self):
        self.assertEqual(order((1, 0, 3, 4, 2, 5)), 6)
        self.assertEqual(order((1, 0, 3, 4, 5, 2)), 4)
        self.assertEqual(order((1, 2, 0, 4, 5, 3)), 3)
        self.assertEqual(order((1, 2, 3, 4, 5, 0)), 6)

    def test_by_name(self):
        self.assertEqual(order(permutation=R), 3)

    def test_list(self):
        items = [1, 2, 0]
        self.assertEqual(order(items), 3)
        self.assertEqual(items, [1, 2, 0])


class PowerTest(unittest.TestCase):
    def test_small_exponents(self):
        for items in all_permutations(5):
            for exponent in range(14):
                self.assertEqual(power(items, exponent), applied(items, exponent))

    def test_negative_exponents_apply_the_inverse(self):
        for items in all_permutations(5):
            back = tuple(sorted(range(len(items)), key=lambda place: items[place]))
            for exponent in range(1, 14):
                self.assertEqual(power(items, -exponent), applied(back, exponent))

    def test_zero_and_one(self):
        for items in all_permutations(6):
            self.assertEqual(power(items, 0), tuple(range(len(items))))
            self.assertEqual(power(items, 1), items)

    def test_large_exponents(self):
        # 10 ** 12 leaves 1 when divided by 3 and 4 when divided by 6.
        self.assertEqual(power(R, FAR), R)
        self.assertEqual(power(R, -FAR), (2, 0, 1))
        self.assertEqual(power(R, FAR - 1), (0, 1, 2))
        self.assertEqual(power(R, 1 - FAR), (0, 1, 2))
        self.assertEqual(power((1, 2, 3, 4, 5, 0), FAR), (4, 5, 0, 1, 2, 3))
        self.assertEqual(power((1, 2, 3, 4, 5, 0), -FAR), (2, 3, 4, 5, 0, 1))
        self.assertEqual(power((1, 0, 3, 4, 2, 5), FAR), (0, 1, 3, 4, 2, 5))
        self.assertEqual(power((1, 0, 3, 4, 2, 5), -FAR), (0, 1, 4, 2, 3, 5))

    def test_every_permutation_of_six_items_with_large_exponents(self):
        for items in itertools.permutations(range(6)):
            # Every order of six items divides 60.
            for exponent in (FAR, FAR - 1, -FAR, 7 - FAR):
                self.assertEqual(power(items, exponent), applied(items, exponent % 60))

    def test_by_name(self):
        self.assertEqual(power(permutation=R, exponent=2), (2, 0, 1))
        self.assertEqual(power(exponent=2, permutation=R), (2, 0, 1))
        self.assertEqual(power(R, exponent=-1), (2, 0, 1))

    def test_list(self):
        items = [1, 2, 0]
        for exponent in (0, 1, 2, -1, FAR, -FAR):
            self.assertEqual(power(items, exponent), power(R, exponent))
            self.assertIs(type(power(items, exponent)), tuple)
        self.assertEqual(items, [1, 2, 0])

    def test_is_a_tuple(self):
        for exponent in (0, 1, -1, FAR):
            self.assertIs(type(power(R, exponent)), tuple)


class ConventionsTest(unittest.TestCase):
    def test_repeated_calls_agree(self):
        for items in all_permutations(4):
            self.assertEqual(inverse(items), inverse(items))
            self.assertEqual(order(items), order(items))
            self.assertEqual(power(items, -5), power(items, -5))
            self.assertEqual(compose(items, items), compose(items, items))

    def test_results_are_permutations(self):
        for items in all_permutations(5):
            size = len(items)
            for result in (identity(size), compose(items, items), inverse(items), power(items, -2)):
                self.assertIs(is_permutation(size, result), True)

    def test_orders_are_integers(self):
        for items in all_permutations(4):
            self.assertIs(type(order(items)), int)


if __name__ == "__main__":
    unittest.main()
