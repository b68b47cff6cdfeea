"""Curves compared: the same, apart, forms of one another."""

import itertools
import random
import unittest

from curveboxes.curves import Curve
from curveboxes.errors import BadCurve
from curveboxes.joints import Far
from curveboxes.kin import Apart, Same, compare, kin, shows_compare
from curveboxes.makers import cup, laced, plain, ring, turning
from tests.reference import places_of, some_rows, turned_about
from tests.values import HUGE, NEGATIVE, OWN, STRANGE, raised

WRONG = [*STRANGE, *OWN, *HUGE, *NEGATIVE]
KNOWN = [laced(), cup(), turning(), ring(), plain(3, 0, 1, 2)]
FORMS = list(itertools.product(range(4), (False, True), (False, True)))


def form_of(curve, turns, is_mirrored, is_reversed):
    turned = (~curve if is_mirrored else curve) << turns
    return -turned if is_reversed else turned


def near_ones():
    """Pairs of curves that differ in little, so that they come apart late or not at all."""
    chance = random.Random(11)
    for rows in some_rows(120, 6):
        other = [list(row) for row in rows]
        at, digit = chance.randrange(len(rows)), chance.randrange(4)
        other[at][digit] = (other[at][digit][0], chance.randrange(len(rows)))
        yield Curve(*rows), Curve(*other)


def late(order):
    """A curve that tells this order a state of 16 that only the last places have."""
    rows = [[(0, 0), (1, 0), (2, 0), (3, at + 1)] for at in range(15)]
    return Curve(*rows, [(quarter, 0) for quarter in order])


class Compared(unittest.TestCase):
    def check(self, one, other, deep):
        found = compare(one, other)
        for level in range(deep + 1):
            ones, others = places_of(one.rows, level), places_of(other.rows, level)
            keys = [key for key in range(4 ** level) if ones[key] != others[key]]
            if keys:
                self.assertEqual(found, Apart(level, keys[0]))
                self.assertEqual([type(found.level), type(found.key)], [int, int])
                return level
        self.assertEqual(found == Same(), one == other)
        return None

    def test_against_all_keys(self):
        levels = [self.check(one, other, 5) for one, other in itertools.product(KNOWN, repeat=2)]
        levels += [self.check(one, other, 5) for one, other in near_ones()]
        for level in (None, 1, 2, 3, 4):
            self.assertIn(level, levels)

    def test_equal_curves(self):
        for curve in [*KNOWN, *[Curve(*rows) for rows in some_rows(30, 9)]]:
            self.assertEqual(compare(curve, Curve(*curve.rows)), Same())
            self.assertEqual(compare(one=curve, other=~~curve), Same())
            self.assertIs(bool(compare(curve, curve)), True)

    def test_apart_at_a_far_level(self):
        one, other = late((0, 1, 3, 2)), late((0, 3, 1, 2))
        # At level 15 the last place alone has the state 15; a level on its quarters with the digits 1 to 3 are unlike.
        self.assertEqual(compare(one, other), Apart(16, 4 ** 16 - 3))
        self.assertEqual(compare(other=one, one=other), Apart(16, 4 ** 16 - 3))
        self.assertEqual(compare(late((0, 1, 3, 2)), late((0, 1, 2, 3))), Apart(16, 4 ** 16 - 2))
        self.assertEqual(compare(late((0, 1, 2, 3)), laced()), Same())

    def test_the_errors_in_their_order(self):
        for value in WRONG:
            if not isinstance(value, Curve):
                for call in (compare, kin):
                    raised(self, BadCurve, ("one",), call, value, laced())
                    raised(self, BadCurve, ("one",), call, value, value)
                    raised(self, BadCurve, ("other",), call, laced(), value)
                    raised(self, BadCurve, ("other",), call, one=laced(), other=value)
                raised(self, BadCurve, ("one",), shows_compare, value, value, value)
                raised(self, BadCurve, ("other",), shows_compare, laced(), value, value)


class Kin(unittest.TestCase):
    def test_all_forms(self):
        for one in [*KNOWN, *[Curve(*rows) for rows in some_rows(9, 3)]]:
            places = places_of(one.rows, 5)
            forms = {form: turned_about(places, *form) for form in FORMS}
            for form in FORMS:
                other = form_of(one, *form)
                self.assertEqual(places_of(other.rows, 5), forms[form])
                found = kin(one, other)
                told = [again for again in FORMS if forms[again] == forms[form]]
                self.assertEqual(found, tuple(told))
                self.assertIn(form, found)
                for turns, is_mirrored, is_reversed in found:
                    self.assertEqual([type(turns), type(is_mirrored), type(is_reversed)], [int, bool, bool])

    def test_of_other_curves(self):
        self.assertEqual(kin(laced(), cup()), ())
        self.assertEqual(kin(turning(), ring()), ())
        self.assertEqual(kin(one=turning(), other=turning().begun(1)), kin(turning(), ~turning()))

    def test_of_itself(self):
        self.assertEqual(kin(laced(), laced()), ((0, False, False), (2, False, True)))
        self.assertEqual(kin(turning(), turning()), ((0, False, False), (1, True, True)))
        self.assertEqual(kin(plain(0, 1, 3, 2), plain(0, 1, 3, 2)), ((0, False, False), (3, True, True)))


class Shown(unittest.TestCase):
    def test_same(self):
        for one, other in itertools.product(KNOWN, repeat=2):
            self.assertIs(shows_compare(one, other, Same()), one == other)
        self.assertIs(shows_compare(one=laced(), other=~~laced(), value=Same()), True)

    def test_apart_of_any_level_and_key(self):
        for one, other in [*itertools.product(KNOWN, repeat=2), *itertools.islice(near_ones(), 20)]:
            for level in range(4):
                ones, others = places_of(one.rows, level), places_of(other.rows, level)
                for key in range(4 ** level):
                    told = ones[key] != others[key]
                    self.assertIs(shows_compare(one, other, Apart(level, key)), told)
                for key in (-1, 4 ** level, 4 ** level + 1, 10 ** 61):
                    self.assertIs(shows_compare(one, other, Apart(level, key)), False)

    def test_what_compare_tells_is_shown(self):
        for one, other in [*itertools.product(KNOWN, repeat=2), *near_ones()]:
            self.assertIs(shows_compare(one, other, compare(one, other)), True)

    def test_far_levels(self):
        chance = random.Random(2)
        for level in (16, 50, 99, 100):
            for _ in range(20):
                key = chance.randrange(4 ** level)
                told = laced()(level).place_of(key) != cup()(level).place_of(key)
                self.assertIs(shows_compare(laced(), cup(), Apart(level, key)), told)
            one, other, below = late((0, 1, 3, 2)), late((0, 3, 1, 2)), 4 ** (level - 16)
            for key, told in ((4 ** 16 - 4, False), (4 ** 16 - 3, True), (4 ** 16 - 2, True), (4 ** 16 - 1, False)):
                self.assertIs(shows_compare(one, other, Apart(level, key * below)), told)
            self.assertIs(shows_compare(laced(), cup(), Apart(level, 0)), False)
            self.assertIs(shows_compare(laced(), cup(), Apart(level, 4 ** level)), False)

    def test_all_else(self):
        for value in [*WRONG, 101, 1]:
            self.assertIs(shows_compare(laced(), cup(), value), False)
            self.assertIs(shows_compare(laced(), laced(), value), False)
            if value != 1 or value is True:
                self.assertIs(shows_compare(laced(), cup(), Apart(value, 1)), False)
                self.assertIs(shows_compare(laced(), cup(), Apart(1, value)), False)
                self.assertIs(shows_compare(laced(), cup(), Apart(value, value)), False)
        self.assertIs(shows_compare(laced(), cup(), Apart(1, 1)), True)
        for value in (Far(1, 1), (1, 1), Same, Apart, "apart 1 1", Apart((1, 1), None)):
            self.assertIs(shows_compare(laced(), cup(), value), False)


if __name__ == "__main__":
    unittest.main()
