"""Squares: keys, places and states of all levels."""

import itertools
import random
import unittest

from curveboxes.boxes import Box
from curveboxes.curves import Curve
from curveboxes.errors import BadCurve, BadKey, BadLevel, BadPlace
from curveboxes.makers import cup, laced, ring, turning
from curveboxes.squares import Square
from tests.reference import grown, some_rows
from tests.values import HUGE, NEGATIVE, OWN, STRANGE, raised

WRONG = [*STRANGE, *OWN, *HUGE, *NEGATIVE]
CURVES = [laced(), cup(), turning(), ring(), *[Curve(*rows) for rows in some_rows(12)]]
FAR = 2 ** 100 - 1


def item(square, at):
    return square[at]


class Made(unittest.TestCase):
    def test_attributes(self):
        for level, side, last in ((0, 1, 0), (1, 2, 3), (5, 32, 1023), (100, 2 ** 100, 4 ** 100 - 1)):
            curve = turning()
            square = Square(curve=curve, level=level)
            self.assertIs(square.curve, curve)
            self.assertEqual((square.level, square.side, square.last), (level, side, last))
            self.assertEqual(square.box(), Box.square(level))

    def test_the_errors_in_their_order(self):
        for value in [*WRONG, 101]:
            raised(self, BadLevel, (value,), Square, laced(), value)
            if not isinstance(value, Curve):
                raised(self, BadCurve, ("curve",), Square, value, 3)
                raised(self, BadCurve, ("curve",), Square, value, value)
        raised(self, BadCurve, ("curve",), Square, laced().rows, 3)
        raised(self, BadCurve, ("curve",), Square, str(laced()), 3)

    def test_equal(self):
        square = Square(turning(), 2)
        self.assertIs(square == turning()(2), True)
        self.assertIs(square == Square(~(~turning()), 2), True)
        for other in [*WRONG, turning()(3), (~turning())(2), turning()]:
            self.assertIs(square == other, False)
            self.assertIs(square != other, True)

    def test_places_in_it(self):
        for level in range(4):
            square = cup()(level)
            for x, y in itertools.product(range(-1, 10), repeat=2):
                self.assertIs((x, y) in square, 0 <= x < 2 ** level and 0 <= y < 2 ** level)
        square = cup()(100)
        self.assertIs((FAR, FAR) in square, True)
        for value in [*WRONG, (FAR + 1, 0), (0, FAR + 1), [1, 1], (1, 1, 1), (1, True)]:
            self.assertIs(value in square, False)

    def test_no_iteration(self):
        for call in (list, iter, tuple, sorted, lambda square: [place for place in square]):
            with self.assertRaises(TypeError):
                call(cup()(2))


class Keys(unittest.TestCase):
    def test_all_places_of_low_levels(self):
        for curve in CURVES:
            for level in range(5):
                square = curve(level)
                told = grown(curve.rows, level)
                for (x, y), (key, state) in told.items():
                    self.assertEqual(square[x, y], key)
                    self.assertEqual(square.place_of(key), (x, y))
                    self.assertIsInstance(square.place_of(key), tuple)
                    self.assertEqual(square.state_at(x, y), state)
                self.assertEqual(sorted(key for key, _ in told.values()), list(range(4 ** level)))

    def test_quarters_at_all_levels(self):
        chance = random.Random(3)
        for curve in CURVES:
            for level in (0, 1, 7, 50, 99):
                square, finer = curve(level), curve(level + 1)
                for _ in range(5):
                    x, y = chance.randrange(2 ** level), chance.randrange(2 ** level)
                    key, state = square[x, y], square.state_at(x, y)
                    self.assertEqual(square.place_of(key), (x, y))
                    for digit, (quarter, after) in enumerate(curve[state]):
                        a, b = 2 * x + quarter % 2, 2 * y + quarter // 2
                        self.assertEqual(finer[a, b], 4 * key + digit)
                        self.assertEqual(finer.place_of(4 * key + digit), (a, b))
                        self.assertEqual(finer.state_at(a, b), after)

    def test_mirrored_reversed_turned_at_level_100(self):
        chance = random.Random(5)
        for curve in CURVES:
            for x, y in [(0, 0), (FAR, 0), (FAR, FAR), (chance.randrange(FAR), chance.randrange(FAR))]:
                key = curve(100)[x, y]
                self.assertEqual((~curve)(100)[y, x], key)
                self.assertEqual((-curve)(100)[x, y], 4 ** 100 - 1 - key)
                self.assertEqual((curve << 1)(100)[FAR - y, x], key)
                self.assertEqual((curve << -1)(100)[y, FAR - x], key)

    def test_by_name(self):
        square = turning()(2)
        self.assertEqual([square.place_of(key=7), square.state_at(y=0, x=3), list(square.walk(first=15))], [(1, 2), 0, [(3, 0)]])

    def test_level_0(self):
        for curve in CURVES:
            square = curve(0)
            self.assertEqual([square[0, 0], square.place_of(0), square.state_at(0, 0)], [0, (0, 0), 0])
            self.assertEqual(list(square.walk()), [(0, 0)])

    def test_what_is_no_place(self):
        for level in (0, 2, 100):
            square = turning()(level)
            side = 2 ** level
            for value in [*WRONG, (side, 0), (0, side), (-1, 0), (0, -1), [0, 0], (0, 0, 0), (True, 0), (0, False), "00"]:
                raised(self, BadPlace, (value,), item, square, value)

    def test_what_is_no_place_for_states(self):
        square = turning()(2)
        for value in [*WRONG, 4, (1, 1)]:
            raised(self, BadPlace, ((value, 0),), square.state_at, value, 0)
            raised(self, BadPlace, ((0, value),), square.state_at, 0, value)
            raised(self, BadPlace, ((value, value),), square.state_at, value, value)

    def test_what_is_no_key(self):
        for level in (0, 2, 100):
            square = turning()(level)
            for value in [*WRONG, 4 ** level, (0, 0)]:
                raised(self, BadKey, (value,), square.place_of, value)
                raised(self, BadKey, (value,), lambda first: next(square.walk(first)), value)


class Walks(unittest.TestCase):
    def test_from_any_key_on(self):
        for curve in (turning(), ring(), laced()):
            for level in range(4):
                square = curve(level)
                places = [square.place_of(key) for key in range(4 ** level)]
                self.assertEqual(list(square.walk()), places)
                for first in range(4 ** level):
                    self.assertEqual(list(square.walk(first)), places[first:])

    def test_left_early_and_two_at_once(self):
        square = turning()(100)
        for first in (0, 4 ** 99 - 3, 4 ** 100 // 3, 4 ** 100 - 6):
            told = [square.place_of(key) for key in range(first, first + 6)]
            self.assertEqual(list(itertools.islice(square.walk(first), 6)), told)
            pairs = zip(square.walk(first), square.walk(first))
            self.assertEqual(list(itertools.islice(pairs, 6)), list(zip(told, told)))
        self.assertEqual(len(list(square.walk(4 ** 100 - 6))), 6)
        walk = square.walk()
        self.assertEqual([next(walk), next(square.walk()), next(walk)], [(0, 0), (0, 0), square.place_of(1)])


if __name__ == "__main__":
    unittest.main()
