"""Curves: made, kept in their least form, asked, turned, written, read, refused."""

import itertools
import unittest

from curveboxes.boxes import Box
from curveboxes.curves import Curve
from curveboxes.errors import BadCurve, BadLevel, BadMany, BadText
from curveboxes.makers import cup, laced, ring, turning
from curveboxes.squares import Square
from tests.reference import grown, keys_of, met_states, orders, some_rows
from tests.values import HUGE, NEGATIVE, OWN, STRANGE, raised

WRONG = [*STRANGE, *OWN, *HUGE, *NEGATIVE]
LACED = ((0, 0), (1, 0), (2, 0), (3, 0))
# Two orders of the quarters, whatever the states.
ROWS = [LACED, ((1, 0), (0, 0), (2, 0), (3, 0))]


def to(row, *states):
    return [(quarter, state) for (quarter, _), state in zip(row, states)]


class LeastForm(unittest.TestCase):
    def test_the_keys_are_those_of_the_rows(self):
        for rows in some_rows(60):
            curve = Curve(*rows)
            for level in range(5):
                self.assertEqual(keys_of(curve.rows, level), keys_of(rows, level))

    def test_no_state_too_many(self):
        for rows in some_rows(200, 16):
            kinds = {orders(rows, state, 6) for state in met_states(rows)}
            self.assertEqual(len(Curve(*rows)), len(kinds))

    def test_states_are_numbered_as_they_are_met(self):
        for rows in some_rows(200, 16):
            met = [0]
            for row in Curve(*rows):
                met.extend([state for _, state in row])
            firsts = list(dict.fromkeys(met))
            self.assertEqual(firsts, list(range(len(firsts))))

    def test_made_of_its_rows_again(self):
        for rows in some_rows(60, 16):
            curve = Curve(*rows)
            self.assertEqual(Curve(*curve.rows), curve)

    def test_other_numbers_of_the_states_mean_nothing(self):
        for rows in some_rows(60):
            for order in itertools.islice(itertools.permutations(range(1, len(rows))), 4):
                names = [0, *order]
                named = [None] * len(rows)
                for state, row in enumerate(rows):
                    named[names[state]] = [(quarter, names[after]) for quarter, after in row]
                self.assertEqual(Curve(*named), Curve(*rows))

    def test_equal_exactly_if_all_keys_are(self):
        made = [(rows, Curve(*rows)) for rows in some_rows(40, 2)]
        for (rows, one), (others, other) in itertools.combinations(made, 2):
            alike = all(keys_of(rows, level) == keys_of(others, level) for level in range(6))
            self.assertIs(one == other, alike)

    def test_states_never_met(self):
        self.assertEqual(Curve(LACED, to(ROWS[1], 0, 1, 0, 1)).rows, (LACED,))
        self.assertEqual(len(Curve(to(LACED, 2, 2, 2, 2), LACED, to(ROWS[1], 2, 2, 2, 2))), 2)

    def test_states_alike_for_ever(self):
        alike = [to(LACED, (at + 1) % 16, at, 0, 15) for at in range(16)]
        self.assertEqual(Curve(*alike).rows, (LACED,))

    def test_states_that_part_late(self):
        # State 15 alone orders otherwise, and just through all the others it is met.
        late = [to(LACED, min(at + 1, 15), at, at, at) for at in range(15)]
        curve = Curve(*late, to(ROWS[1], 15, 15, 15, 15))
        self.assertEqual(len(curve), 16)
        self.assertFalse(curve == laced())
        self.assertEqual([curve(15)[0, 1], curve(16)[0, 1], curve(16)[0, 0]], [2, 2, 1])


class Made(unittest.TestCase):
    def test_lists_and_tuples(self):
        for row in (LACED, list(LACED)):
            curve = Curve(row)
            self.assertEqual(curve.rows, (LACED,))
            self.assertEqual([type(curve.rows), type(curve.rows[0])], [tuple, tuple])

    def test_what_is_done_to_handed_rows_later(self):
        row = list(LACED)
        curve = Curve(row, row)
        row[0], row[1] = row[1], row[0]
        row.append(5)
        self.assertEqual(curve, laced())
        self.assertEqual(curve(1)[1, 0], 1)

    def test_no_rows_or_too_many(self):
        raised(self, BadCurve, ("rows",), Curve)
        raised(self, BadCurve, ("rows",), Curve, *[LACED] * 17)
        raised(self, BadCurve, ("rows",), Curve, *[None] * 17)
        self.assertEqual(Curve(*[LACED] * 16), laced())
        self.assertEqual(Curve.MOST, 16)

    def test_the_first_wrong_row_is_told(self):
        rows = [
            *WRONG, LACED[:3], [*LACED, (0, 0)], [(0, 0), (1, 0), (2, 0), (2, 0)], [(0, 0), (1, 0), (2, 0), (4, 0)],
            [(0, 0), (1, 0), (2, 0), (-1, 0)], [(0, 0), (1, 0), (2, 0), [3, 0]], [(0, 0), (1, 0), (2, 0), (3, 0, 0)],
            [(0, 0), (True, 0), (2, 0), (3, 0)], [(False, 0), (1, 0), (2, 0), (3, 0)], [(0, 0), (1, False), (2, 0), (3, 0)],
            [(0, 0), (1, 0), (2, 0), (3, -1)], [(0, 0), (1, 0), (2, 0), (3, None)], [0, 1, 2, 3], ["00", "10", "20", "30"],
            {0: 0, 1: 0, 2: 0, 3: 0},
        ]
        for row in rows:
            raised(self, BadCurve, (0,), Curve, row)
            raised(self, BadCurve, (1,), Curve, LACED, row, row)
        raised(self, BadCurve, (0,), Curve, to(LACED, 0, 0, 0, 1))
        raised(self, BadCurve, (1,), Curve, to(LACED, 0, 0, 0, 1), to(LACED, 0, 0, 0, 2))
        self.assertEqual(len(Curve(to(LACED, 0, 0, 0, 1), to(ROWS[1], 0, 0, 0, 1))), 2)


class Asked(unittest.TestCase):
    def test_length_items_slices(self):
        for curve in (laced(), turning(), ring()):
            many = len(curve.rows)
            self.assertEqual(len(curve), many)
            self.assertIs(bool(curve), True)
            self.assertEqual(list(curve), list(curve.rows))
            self.assertEqual(list(zip(curve, curve)), list(zip(curve.rows, curve.rows)))
            for at in range(-many, many):
                self.assertEqual(curve[at], curve.rows[at])
            for at in (many, -many - 1, 10 ** 30):
                with self.assertRaises(IndexError):
                    curve[at]
            for low, high in itertools.product((None, -9, -2, 0, 1, 3, 9), repeat=2):
                for step in (None, -2, -1, 1, 2, 7):
                    self.assertEqual(curve[low:high:step], curve.rows[low:high:step])
                    self.assertIsInstance(curve[low:high:step], tuple)

    def test_equal(self):
        for other in [*[value for value in WRONG if not isinstance(value, Curve)], cup(), turning().rows, str(turning())]:
            self.assertIs(turning() == other, False)
            self.assertIs(turning() != other, True)
        self.assertIs(turning() == turning(), True)

    def test_square(self):
        self.assertEqual(turning()(3), Square(turning(), 3))
        self.assertEqual(turning()(level=0), Square(turning(), 0))
        for value in [*WRONG, 101, -1]:
            raised(self, BadLevel, (value,), turning(), value)


class Turned(unittest.TestCase):
    def setUp(self):
        self.curves = [laced(), cup(), turning(), ring(), *[Curve(*rows) for rows in some_rows(20)]]

    def test_mirrored(self):
        for curve in self.curves:
            self.assertEqual(~~curve, curve)
            for level in range(5):
                told = {(y, x): key for (x, y), key in keys_of(curve.rows, level).items()}
                self.assertEqual(keys_of((~curve).rows, level), told)

    def test_reversed(self):
        for curve in self.curves:
            self.assertEqual(-(-curve), curve)
            for level in range(5):
                last = 4 ** level - 1
                told = {place: last - key for place, key in keys_of(curve.rows, level).items()}
                self.assertEqual(keys_of((-curve).rows, level), told)

    def test_turned(self):
        for curve in self.curves:
            told = {level: keys_of(curve.rows, level) for level in range(5)}
            for n in range(5):
                for level, keys in told.items():
                    self.assertEqual(keys_of((curve << n).rows, level), keys)
                    side = 2 ** level
                    told[level] = {(side - 1 - y, x): key for (x, y), key in keys.items()}

    def test_turned_by_any_integer(self):
        for curve in self.curves:
            for n in (-1, -2, -3, -4, 4, 5, 10 ** 61 + 3, -(10 ** 61) - 1):
                self.assertEqual(curve << n, curve << (n % 4))
        for value in [*STRANGE, *OWN]:
            raised(self, BadMany, (value,), lambda: laced() << value)

    def test_in_place(self):
        first = turning()
        text = str(first)
        curve = first
        curve <<= 1
        self.assertEqual(curve, turning() << 1)
        self.assertEqual(str(first), text)

    def test_begun(self):
        for curve in self.curves:
            for state in range(len(curve)):
                begun = curve.begun(state)
                self.assertEqual(orders(begun.rows, 0, 5), orders(curve.rows, state, 5))
                for (x, y), (key, after) in grown(curve.rows, 2).items():
                    if after == state:
                        square = begun(2)
                        for a, b in Box.square(2).cells():
                            self.assertEqual(curve(4)[4 * x + a, 4 * y + b], 16 * key + square[a, b])
            self.assertEqual(curve.begun(state=0), curve)

    def test_no_state(self):
        for value in [*WRONG, 4]:
            raised(self, BadMany, (value,), turning().begun, value)
        raised(self, BadMany, (1,), laced().begun, 1)


class Texts(unittest.TestCase):
    def test_written_and_read(self):
        for rows in some_rows(60, 16):
            curve = Curve(*rows)
            text = " / ".join([" ".join([f"{quarter}>{state}" for quarter, state in row]) for row in curve.rows])
            self.assertEqual(str(curve), text)
            self.assertEqual(Curve.read(text), curve)
            raw = " / ".join([" ".join([f"{quarter}>{state}" for quarter, state in row]) for row in rows])
            self.assertEqual(Curve.read(text=raw), curve)

    def test_words_that_cannot_stand(self):
        good = "0>0 1>0 2>0 3>0"
        for text, at in (
            ("", 0), (" ", 0), ("none", 0), ("0>0", 1), ("0>0 1>0", 2), ("0>0 1>0 2>0", 3), (good + " /", 5),
            (good + " / ", 5), (good + " ", 4), (good + " 0>0", 4), (good + " // " + good, 4), (good + " / /", 5),
            ("/ " + good, 0), (good + " / " + good + " x", 9), (good + " / 0>0 1>0 2>0", 8), ("0>0 / 2>0 3>0", 1),
            ("0>0 1>0 0>0 2>0", 2), ("0>0 0>0 0>0 0>0", 1), ("4>0 1>0 2>0 3>0", 0), ("0>16 1>0 2>0 3>0", 0),
            ("0>0 1>-1 2>0 3>0", 1), ("0>0 1>00 2>0 3>0", 1), ("0>0 1>01 2>0 3>0", 1), ("00>0 1>0 2>0 3>0", 0),
            ("0>0 1>0>0 2>0 3>0", 1), ("0>0 10 2>0 3>0", 1), ("0>0 1> 2>0 3>0", 1), ("0>0 >1 2>0 3>0", 1),
            ("0>0  1>0 2>0 3>0", 1), ("0>0 1>0 2>0 3>0\n", 3), ("0>0 1>0\n2>0 3>0", 1), ("0>" + "9" * 2000, 0),
            ("0>x 1>0 2>0 3>0", 0), (good + " / 0>0 1>0 2>0 2>0 3>0", 8),
        ):
            raised(self, BadText, (0, at), Curve.read, text)

    def test_then_as_a_curve(self):
        good = "0>0 1>0 2>0 3>0"
        self.assertEqual(Curve.read(" / ".join([good] * 16)), laced())
        raised(self, BadCurve, ("rows",), Curve.read, " / ".join([good] * 17))
        raised(self, BadText, (0, 84), Curve.read, " / ".join([good] * 17) + " x")
        raised(self, BadCurve, (0,), Curve.read, "0>1 1>0 2>0 3>0")
        raised(self, BadCurve, (1,), Curve.read, good + " / 0>1 1>0 2>15 3>0")

    def test_no_string(self):
        for value in WRONG:
            if not isinstance(value, str):
                raised(self, BadText, (0, 0), Curve.read, value)


if __name__ == "__main__":
    unittest.main()
