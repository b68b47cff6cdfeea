"""The ranges of boxes: counted, told, and searched for keys."""

import itertools
import random
import time
import unittest

from curveboxes.boxes import Box
from curveboxes.curves import Curve
from curveboxes.errors import BadBox, BadCurve, BadKey, BadMany, TooMany
from curveboxes.makers import cup, laced, ring, turning
from curveboxes.ranges import count, first_key, key_ahead, last_key, next_key, span_at, spans_of
from curveboxes.spans import Spans
from curveboxes.squares import Square
from tests.reference import boxes_in, cells, keys_of, random_rows, some_rows, stretches
from tests.values import HUGE, NEGATIVE, OWN, STRANGE, raised

WRONG = [*STRANGE, *OWN, *HUGE, *NEGATIVE]
CURVES = [laced(), cup(), turning(), ring(), *[Curve(*rows) for rows in some_rows(6)]]
FAR = 2 ** 100
GREAT = Box(10 ** 29 + 7, 3 * 10 ** 29 + 11, 9 * 10 ** 29 + 123456789, 7 * 10 ** 29 + 987654321)
# For each function: what it takes behind the square and the box.
CALLS = ((count, ()), (spans_of, (5,)), (span_at, (0,)), (first_key, ()), (last_key, ()), (next_key, (0,)), (key_ahead, (0,)))


class Ordinary(unittest.TestCase):
    def test_boxes_of_levels_0_to_4(self):
        # All boxes of the first levels, and some of the others.
        for curve, (level, step) in itertools.product(CURVES, enumerate((1, 1, 1, 5, 101))):
            told = keys_of(curve.rows, level)
            for box in list(boxes_in(2 ** level))[::step]:
                self.check(curve(level), Box(*box), sorted(told[place] for place in cells(*box)))

    def check(self, square, box, keys):
        pairs = stretches(keys)
        self.assertEqual(count(square, box), len(pairs))
        found = spans_of(square, box)
        self.assertIsInstance(found, Spans)
        self.assertEqual(found.pairs, tuple(pairs))
        for at in {0, len(pairs) // 2, len(pairs) - 1}:
            self.assertEqual(span_at(square, box, at), pairs[at])
            self.assertIsInstance(span_at(square, box, at), tuple)
        self.assertEqual((first_key(square, box), last_key(square, box)), (keys[0], keys[-1]))
        # A key ahead of the box, its ends, one within and one behind it, where there are such.
        for key in {0, keys[0], max(keys[0] - 1, 0), keys[len(keys) // 2], keys[-1], min(keys[-1] + 1, square.last), square.last}:
            self.assertEqual(next_key(square, box, key), min([k for k in keys if k >= key], default=None))
            self.assertEqual(key_ahead(square, box, key), max([k for k in keys if k < key], default=None))

    def test_all_keys_and_indexes(self):
        for curve in CURVES:
            square = curve(3)
            told = keys_of(curve.rows, 3)
            for box in list(boxes_in(8))[::97]:
                keys = sorted(told[place] for place in cells(*box))
                pairs = stretches(keys)
                self.assertEqual([span_at(square, Box(*box), n) for n in range(len(pairs))], pairs)
                for key in range(64):
                    self.assertEqual(next_key(square, Box(*box), key), min([k for k in keys if k >= key], default=None))
                    self.assertEqual(key_ahead(square, Box(*box), key), max([k for k in keys if k < key], default=None))

    def test_level_0(self):
        for curve in CURVES:
            square, box = curve(0), Box(0, 0)
            self.assertEqual([count(square, box), spans_of(square, box), span_at(square, box, 0)], [1, Spans((0, 0)), (0, 0)])
            self.assertEqual([first_key(square, box), last_key(square, box)], [0, 0])
            self.assertEqual([next_key(square, box, 0), key_ahead(square, box, 0)], [0, None])

    def test_by_name(self):
        square, box = turning()(2), Box(1, 1, 2, 2)
        self.assertEqual(count(box=box, square=square), 3)
        self.assertEqual(spans_of(most=3, box=box, square=square), Spans((2, 2), (7, 8), (13, 13)))
        self.assertEqual(span_at(n=1, square=square, box=box), (7, 8))
        self.assertEqual([first_key(square=square, box=box), last_key(square=square, box=box)], [2, 13])
        self.assertEqual([next_key(square, box=box, key=3), key_ahead(square, key=7, box=box)], [7, 2])
        self.assertEqual([next_key(square, box, 14), key_ahead(square, box, 2)], [None, None])


class Far(unittest.TestCase):
    def test_rows_and_columns_of_the_laced_curve(self):
        chance = random.Random(1)
        for level in (3, 7, 100):
            square = laced()(level)
            side = 2 ** level
            for _ in range(20):
                x, y = chance.randrange(side), chance.randrange(side)
                width, height = chance.randrange(side - x) + 1, chance.randrange(side - y) + 1
                # In a row those follow the place ahead that stand behind an even column.
                followed = (x + width - 2) // 2 - (x + 1) // 2 + 1
                self.assertEqual(count(square, Box(x, y, width, 1)), width - followed)
                self.assertEqual(count(square, Box(x, y, 1, height)), height)

    def test_single_places_and_whole_squares(self):
        chance = random.Random(2)
        for curve in CURVES:
            square = curve(100)
            self.assertEqual(spans_of(square, Box.square(100)), Spans((0, square.last)))
            self.assertEqual(span_at(square, Box.square(100), 0), (0, 4 ** 100 - 1))
            self.assertEqual([first_key(square, square.box()), last_key(square, square.box())], [0, square.last])
            for x, y in ((0, 0), (FAR - 1, 0), (FAR - 1, FAR - 1), (chance.randrange(FAR), chance.randrange(FAR))):
                key = square[x, y]
                box = Box(x, y)
                self.assertEqual([count(square, box), spans_of(square, box, 1)], [1, Spans((key, key))])
                self.assertEqual([first_key(square, box), last_key(square, box), span_at(square, box, 0)], [key, key, (key, key)])
                self.assertEqual(next_key(square, box, 0), key)
                self.assertEqual(next_key(square, box, key), key)
                self.assertEqual(key_ahead(square, box, key), None)
                self.assertEqual(key_ahead(square, box, square.last), key if key < square.last else None)
                self.assertEqual(next_key(square, box, square.last), key if key == square.last else None)

    def test_blocks_are_one_range(self):
        chance = random.Random(3)
        for curve, up in itertools.product(CURVES, (0, 1, 40, 99)):
            square, coarse = curve(100), curve(100 - up)
            x, y = chance.randrange(coarse.side), chance.randrange(coarse.side)
            low = coarse[x, y] << 2 * up
            self.assertEqual(spans_of(square, Box(x, y) << up), Spans((low, low + 4 ** up - 1)))

    def test_led_on_some_levels(self):
        chance = random.Random(4)
        for curve in CURVES:
            for level, on in ((3, 1), (4, 96), (20, 33)):
                square, finer = curve(level), curve(level + on)
                x, y = chance.randrange(square.side - 5), chance.randrange(square.side - 5)
                box = Box(x, y, chance.randrange(1, 6), chance.randrange(1, 6))
                pairs = [(low << 2 * on, (high + 1 << 2 * on) - 1) for low, high in spans_of(square, box)]
                self.assertEqual(spans_of(finer, box << on), Spans(*pairs))
                self.assertEqual(count(finer, box << on), count(square, box))

    def test_mirrored_turned_and_reversed(self):
        chance = random.Random(5)
        for curve, level in itertools.product(CURVES, (3, 30, 100)):
            square = curve(level)
            side = square.side
            x, y = chance.randrange(side - 5), chance.randrange(side - 5)
            width, height = chance.randrange(1, 6), chance.randrange(1, 6)
            box = Box(x, y, width, height)
            self.assertEqual(spans_of((~curve)(level), Box(y, x, height, width)), spans_of(square, box))
            turned = Box(side - y - height, x, height, width)
            self.assertEqual(spans_of((curve << 1)(level), turned), spans_of(square, box))
            pairs = [(square.last - high, square.last - low) for low, high in spans_of(square, box)]
            self.assertEqual(spans_of((-curve)(level), box), Spans(*pairs))


class Great(unittest.TestCase):
    """Boxes with sides of thirty digits: the work must not grow with the places or the ranges."""

    def setUp(self):
        chance = random.Random(6)
        self.curves = [laced(), turning(), ring(), Curve(*random_rows(chance, 16))]
        self.began = time.perf_counter()

    def tearDown(self):
        self.assertLess(time.perf_counter() - self.began, 20)

    def test_counts_in_all_forms(self):
        for curve in self.curves:
            many = count(curve(100), GREAT)
            self.assertGreater(many, 10 ** 20)
            self.assertLess(many, GREAT.many)
            self.assertEqual(count((-curve)(100), GREAT), many)
            self.assertEqual(count((~curve)(100), Box(GREAT.y, GREAT.x, GREAT.height, GREAT.width)), many)
            turned = Box(FAR - GREAT.y - GREAT.height, GREAT.x, GREAT.height, GREAT.width)
            self.assertEqual(count((curve << 1)(100), turned), many)

    def test_ranges_by_their_indexes(self):
        chance = random.Random(7)
        for curve in self.curves:
            square = curve(100)
            many = count(square, GREAT)
            self.assertEqual(span_at(square, GREAT, 0)[0], first_key(square, GREAT))
            self.assertEqual(span_at(square, GREAT, many - 1)[1], last_key(square, GREAT))
            for n in (0, many // 2, chance.randrange(many - 1)):
                low, high = span_at(square, GREAT, n)
                after = span_at(square, GREAT, n + 1)
                self.assertIn(square.place_of(low), GREAT)
                self.assertIn(square.place_of(high), GREAT)
                self.assertNotIn(square.place_of(high + 1), GREAT)
                self.assertEqual(next_key(square, GREAT, high + 1), after[0])
                self.assertEqual(key_ahead(square, GREAT, after[0]), high)
                # Read from the last key on, it is that with the index counted from the end.
                self.assertEqual(
                    span_at((-curve)(100), GREAT, many - 1 - n), (square.last - high, square.last - low))
            raised(self, BadMany, (many,), span_at, square, GREAT, many)

    def test_few_ranges_of_a_great_box(self):
        for curve in self.curves:
            square = curve(100)
            half = Box(0, 0, FAR // 2, FAR)
            self.assertLessEqual(count(square, half), 2)
            self.assertEqual(spans_of(square, half).total, half.many)
            frame = Box(FAR // 2 - 2, FAR // 2 - 1, 4, 3)
            keys = [square[place] for place in frame.cells()]
            self.assertEqual(spans_of(square, frame).pairs, tuple(stretches(keys)))

    def test_refused_at_once(self):
        for curve in self.curves:
            for most in (1, 17, 1000):
                raised(self, TooMany, ("spans", most), spans_of, curve(100), GREAT, most)
            raised(self, TooMany, ("spans", 1000), spans_of, curve(100), GREAT)

    def test_a_thousand_ranges(self):
        for curve in self.curves:
            square = curve(100)
            for box in (Box(FAR // 2 - 3, FAR // 2 - 400, 1, 700), Box(FAR // 3, FAR // 5, 900, 1)):
                found = spans_of(square, box)
                self.assertEqual(found.pairs, tuple(stretches([square[place] for place in box.cells()])))
        square = laced()(100)
        self.assertEqual(len(spans_of(square, Box(5, FAR - 1000, 1, 1000))), 1000)
        raised(self, TooMany, ("spans", 1000), spans_of, square, Box(5, FAR - 1001, 1, 1001))


class Errors(unittest.TestCase):
    def test_what_is_no_square(self):
        for value in [*WRONG, laced()]:
            for call, rest in CALLS:
                if not isinstance(value, Square):
                    raised(self, BadCurve, ("square",), call, value, Box(0, 0), *rest)
                    # It is told ahead of all else that is wrong.
                    raised(self, BadCurve, ("square",), call, value, value, *[value for _ in rest])

    def test_what_is_no_box(self):
        for value in WRONG:
            for call, rest in CALLS:
                if not isinstance(value, Box):
                    raised(self, BadBox, ("box",), call, laced()(2), value, *rest)
                    raised(self, BadBox, ("box",), call, laced()(2), value, *[value for _ in rest])

    def test_boxes_outside(self):
        for call, rest in CALLS:
            for level in (0, 2, 100):
                side = 2 ** level
                for box in (Box(0, 0, side + 1, 1) if level < 100 else None, Box(side - 1, 0, 2, 1), Box(0, side - 1, 1, 2)):
                    if box is not None:
                        raised(self, BadBox, ("outside",), call, laced()(level), box, *rest)
                        raised(self, BadBox, ("outside",), call, laced()(level), box, *[None for _ in rest])

    def test_most(self):
        square, box = turning()(2), Box(1, 1, 2, 2)
        for value in [*WRONG, 0, 1001]:
            raised(self, BadMany, (value,), spans_of, square, box, value)
            raised(self, BadMany, (value,), spans_of, laced()(100), GREAT, most=value)
        for most in (1, 2):
            raised(self, TooMany, ("spans", most), spans_of, square, box, most)
        for most in (3, 4, 1000):
            self.assertEqual(len(spans_of(square, box, most)), 3)

    def test_indexes(self):
        square, box = turning()(2), Box(1, 1, 2, 2)
        for value in [*WRONG, 3, 4]:
            raised(self, BadMany, (value,), span_at, square, box, value)

    def test_keys(self):
        for level in (0, 2, 100):
            square = turning()(level)
            for value in [*WRONG, 4 ** level]:
                raised(self, BadKey, (value,), next_key, square, square.box(), value)
                raised(self, BadKey, (value,), key_ahead, square, square.box(), value)


if __name__ == "__main__":
    unittest.main()
