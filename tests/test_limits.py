"""Point 3: the limit that limits.py defines."""

import unittest

from elderways import limits


class LimitsTest(unittest.TestCase):
    def test_max_listed(self):
        self.assertEqual(limits.MAX_LISTED, 600)
        self.assertIs(type(limits.MAX_LISTED), int)


if __name__ == "__main__":
    unittest.main()
