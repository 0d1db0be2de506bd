"""Points 2, 3 and 20: the functions of texts.py."""

import itertools
import random
import unittest

from elderways.errors import InvalidText
from elderways.houses import is_house
from elderways.texts import format_house, format_passage, parse_house
from tests import helpers
from tests.helpers import H, R

ONE = "house 1 1\n0 0 0"
TEXT = "house 3 3\n0 1 120\n1 2 012"


class ExamplesTest(unittest.TestCase):
    """The examples of point 20, as written."""

    def test_format_passage(self):
        self.assertEqual(format_passage((0, 1, R)), "0 1 120")

    def test_format_house(self):
        self.assertEqual(format_house((1, 1, ((0, 0, (0,)),))), "house 1 1\n0 0 0")

    def test_parse_house(self):
        self.assertEqual(parse_house("house 1 1\n0 0 0"), (1, 1, ((0, 0, (0,)),)))


def sample_houses(seed):
    """Return houses of many shapes within the limits of the format."""
    chance = random.Random(seed)
    shapes = itertools.product((1, 2, 8), (1, 3, 4), (0, 1, 5, 12))
    return [helpers.random_house(chance, rooms, size, many) for rooms, size, many in shapes]


class FormatTest(unittest.TestCase):
    def test_passages(self):
        for passage in helpers.all_passages(8, 2) + helpers.all_passages(2, 4):
            self.assertEqual(format_passage(passage), helpers.text_of_passage(passage))
        self.assertEqual(format_passage((7, 0, (2, 0, 1))), "7 0 201")
        self.assertEqual(format_passage((0, 0, (0,))), "0 0 0")

    def test_houses(self):
        for house in sample_houses(1):
            self.assertEqual(format_house(house), helpers.text_of_house(house))
        self.assertEqual(format_house((8, 4, ())), "house 8 4")
        self.assertEqual(format_house(H), TEXT)

    def test_no_line_feed_at_the_end(self):
        for house in sample_houses(2):
            self.assertEqual(format_house(house).count("\n"), len(house[2]))
            self.assertFalse(format_house(house).endswith("\n"))

    def test_beyond_the_limits(self):
        self.assertEqual(format_passage((10, 123, (4, 3, 2, 1, 0))), "10 123 43210")
        house = (20, 6, ((19, 10, (5, 4, 3, 2, 1, 0)),) * 15)
        self.assertEqual(format_house(house), "house 20 6" + "\n19 10 543210" * 15)

    def test_conventions(self):
        helpers.check_conventions(self, format_passage, passage=(0, 1, R))
        for house in (H, (1, 1, ())):
            helpers.check_conventions(self, format_house, house=house)


class ParseTest(unittest.TestCase):
    def refused(self, line, *texts):
        for text in texts:
            with self.subTest(text=text):
                helpers.check_raised(self, InvalidText, {"line": line}, parse_house, text)

    def accepted(self, text, house):
        self.assertEqual(parse_house(text), house)
        self.assertIs(is_house(parse_house(text)), True)

    def test_houses(self):
        for house in sample_houses(3):
            self.accepted(format_house(house), house)
            self.accepted(helpers.text_of_house(house), house)
            self.assertEqual(format_house(parse_house(format_house(house))), format_house(house))

    def test_every_passage(self):
        for rooms, size in ((1, 1), (2, 3), (3, 2), (2, 4)):
            for passage in helpers.all_passages(rooms, size):
                self.accepted(f"house {rooms} {size}\n" + helpers.text_of_passage(passage), (rooms, size, (passage,)))

    def test_limits_of_the_first_line(self):
        for rooms, size in itertools.product(range(12), range(12)):
            text = f"house {rooms} {size}"
            if 1 <= rooms <= 8 and 1 <= size <= 4:
                self.accepted(text, (rooms, size, ()))
            else:
                self.refused(0, text, text + "\n0 0 0")
        self.refused(0, "house 10 1", "house 1 10", "house 80 4", "house 1000000000000 1", "house 1 " + "9" * 30)

    def test_eight_and_nine_rooms(self):
        self.accepted("house 8 1\n7 0 0", (8, 1, ((7, 0, (0,)),)))
        self.refused(0, "house 9 1\n7 0 0")
        self.refused(1, "house 8 1\n8 0 0", "house 8 1\n0 8 0", "house 8 1\n10 0 0")

    def test_size_four_and_five(self):
        self.accepted("house 1 4\n0 0 3210", (1, 4, ((0, 0, (3, 2, 1, 0)),)))
        self.refused(0, "house 1 5\n0 0 43210", "house 1 5")

    def test_twelve_and_thirteen_passages(self):
        twelve = "house 1 1" + "\n0 0 0" * 12
        self.accepted(twelve, (1, 1, ((0, 0, (0,)),) * 12))
        self.refused(
            13, twelve + "\n0 0 0", twelve + "\n0 0 0" * 5, twelve + "\n", twelve + "\nx", twelve + "\n0 0 0\nx",
        )
        self.refused(7, "house 1 1" + "\n0 0 0" * 6 + "\n0 0 1" + "\n0 0 0" * 9)

    def test_empty_text_and_empty_lines(self):
        self.refused(0, "", "\n", "\n\n", " ", "\nhouse 1 1")
        self.refused(1, "house 1 1\n", "house 1 1\n\n", "house 1 1\n\n0 0 0")
        self.refused(2, ONE + "\n", ONE + "\n\n", ONE + "\n\n0 0 0", ONE + "\n ")

    def test_spaces(self):
        self.refused(0, " house 1 1", "house 1 1 ", "house  1 1", "house 1  1", "house 1 1  ", "house\t1 1", "house1 1")
        for line in ("0  0 0", "0 0  0", " 0 0 0", "0 0 0 ", "0 00", "00 0", "000", "0\t0 0", "0 0 0\r", "0 0\u00a00"):
            self.refused(1, "house 1 1\n" + line, "house 1 1\n" + line + "\nx")
            self.refused(2, ONE + "\n" + line)
        self.refused(0, "house 1 1\r\n0 0 0", "house 1 1\r", "house 1 1\x0b", "house 1 1\u2028")

    def test_leading_zeros_and_signs(self):
        self.refused(
            0, "house 01 1", "house 1 01", "house 00 1", "house +1 1", "house 1 -1", "house 1. 1", "house 1_0 1",
        )
        for line in (
            "00 0 0", "0 00 0", "01 0 0", "0 0 00", "0 0 01", "+0 0 0", "-0 0 0", "0 -1 0", "0 0 -0", "0.0 0 0",
        ):
            self.refused(1, "house 2 1\n" + line)

    def test_other_digits(self):
        for digit in ("\u0661", "\u00b9", "\uff11", "\u2460", "\u00bd"):
            self.refused(0, f"house {digit} 1", f"house 1 {digit}", f"house 1{digit} 1")
            self.refused(1, f"house 3 2\n{digit} 0 01", f"house 3 2\n0 {digit} 01", f"house 3 2\n0 0 0{digit}")

    def test_missing_and_superfluous_words(self):
        self.refused(0, "house", "house 1", "house 1 1 1", "1 1", "0 0 0", "house house 1 1", "House 1 1", "HOUSE 1 1")
        self.refused(0, "hous 1 1", "houses 1 1", "home 1 1", "house a 1", "house 1 a", "house 1 1 # one")
        for line in ("0", "0 0", "0 0 0 0", "house 1 1", "0 0 x", "x 0 0", "0 x 0", "a b c", "-", "0 0 ()"):
            self.refused(1, "house 1 1\n" + line)

    def test_permutations(self):
        for word in ("0", "01", "0123", "011", "000", "013", "123", "120 ", "1 2 0", "12", "1200", "(1,2,0)", "abc"):
            self.refused(1, "house 3 3\n0 0 " + word)
        for permutation in itertools.permutations("012"):
            self.assertEqual(
                parse_house("house 3 3\n0 0 " + "".join(permutation))[2][0][2], tuple(map(int, permutation)),
            )

    def test_the_first_wrong_line_counts(self):
        self.refused(0, "house 9 1\nx", "hose 1 1\n\n")
        self.refused(1, TEXT.replace("0 1 120", "0 3 120").replace("012", "013"))
        self.refused(2, TEXT.replace("012", "013") + "\n9 9 9\n")
        self.refused(3, TEXT + "\n9 9 9\n\n")

    def test_spoiled_texts(self):
        chance = random.Random(4)
        outcomes = []
        for house in sample_houses(5):
            for text in helpers.spoiled_texts(chance, format_house(house), 60):
                expected = helpers.house_of_text(text)
                outcomes.append(isinstance(expected, int))
                if isinstance(expected, int):
                    self.refused(expected, text)
                else:
                    self.accepted(text, expected)
        self.assertGreater(outcomes.count(True), 500)
        self.assertGreater(outcomes.count(False), 50)

    def test_any_string(self):
        chance = random.Random(6)
        for _ in range(300):
            text = "".join(
                chance.choice("house 1012\n\t\x00\u00e9\U0001f600'\"\\") for _ in range(chance.randrange(30))
            )
            expected = helpers.house_of_text(text)
            if isinstance(expected, int):
                self.refused(expected, text)
            else:
                self.accepted(text, expected)

    def test_very_long_words(self):
        # More digits than int(..) takes.
        self.refused(0, "house " + "1" * 5000 + " 1", "house 1 " + "1" * 5000, "0" * 5000)
        self.refused(1, "house 1 1\n" + "1" * 5000 + " 0 0", "house 1 1\n0 0 " + "0" * 5000)

    def test_conventions(self):
        for text in (ONE, TEXT, "house 8 4"):
            helpers.check_conventions(self, parse_house, text=text)


if __name__ == "__main__":
    unittest.main()
