"""The checks of any value, by kind and value."""

import unittest

from curveboxes.checks import is_between, is_integer, is_level, is_pair
from tests.values import HUGE, NEGATIVE, OWN, STRANGE

OTHERS = [*STRANGE, *OWN]


class Checks(unittest.TestCase):
    def test_integers(self):
        for value in (0, 1, 100, 101, *NEGATIVE, *HUGE):
            self.assertIs(is_integer(value), True)
        for value in OTHERS:
            self.assertIs(is_integer(value), False)

    def test_between(self):
        for value in (-3, 0, 7):
            self.assertIs(is_between(value, -3, 7), True)
        for value in (-4, 8, *HUGE, *OTHERS):
            self.assertIs(is_between(value, -3, 7), False)
        self.assertIs(is_between(5, 5, 5), True)
        self.assertIs(is_between(5, 6, 4), False)
        self.assertIs(is_between(value=2, most=3, least=1), True)
        for value in (True, False):
            self.assertIs(is_between(value, 0, 1), False)

    def test_levels(self):
        for value in (0, 1, 99, 100):
            self.assertIs(is_level(value), True)
        for value in (101, *NEGATIVE, *HUGE, *OTHERS):
            self.assertIs(is_level(value), False)

    def test_pairs(self):
        for value in ((0, 0), (-1, 5), (HUGE[0], NEGATIVE[2])):
            self.assertIs(is_pair(value), True)
        for value in (0, -1, *OTHERS, (0, 0, 0), [0, 0], (0, True), (None, 0), (0, "0"), ((0, 0), 0), "00"):
            self.assertIs(is_pair(value), False)

    def test_by_name(self):
        self.assertEqual([is_integer(value=1), is_level(value=1), is_pair(value=(1, 1))], [True, True, True])


if __name__ == "__main__":
    unittest.main()
