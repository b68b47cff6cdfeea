"""Covers of boxes by few stretches of keys."""

import itertools
import random
import time
import unittest

from curveboxes.boxes import Box
from curveboxes.covers import Cover, cover, shows_cover
from curveboxes.curves import Curve
from curveboxes.errors import BadBox, BadCurve, BadMany, TooMany
from curveboxes.kin import Apart
from curveboxes.makers import cup, laced, ring, turning
from curveboxes.spans import Spans
from curveboxes.squares import Square
from tests.reference import boxes_in, cells, keys_of, some_rows, stretches
from tests.values import HUGE, NEGATIVE, OWN, STRANGE, raised

WRONG = [*STRANGE, *OWN, *HUGE, *NEGATIVE]
CURVES = [laced(), cup(), turning(), ring(), *[Curve(*rows) for rows in some_rows(4)]]
FAR = 2 ** 100


def best(pairs, most):
    """The pairs with the gaps left whose sum is greatest, of equal sums the earlier gaps, by trying all."""
    gaps = [after[0] - pair[1] - 1 for pair, after in zip(pairs, pairs[1:])]
    choices = itertools.combinations(range(len(gaps)), min(most - 1, len(gaps)))
    left = max(choices, key=lambda choice: (sum(gaps[at] for at in choice), [-at for at in choice]))
    found = []
    low = pairs[0][0]
    for at in left:
        found.append((low, pairs[at][1]))
        low = pairs[at + 1][0]
    return [*found, (low, pairs[-1][1])]


class Covers(unittest.TestCase):
    def test_against_all_choices(self):
        for curve, level in itertools.product(CURVES, range(4)):
            told = keys_of(curve.rows, level)
            for box in list(boxes_in(2 ** level))[::7]:
                keys = [told[place] for place in cells(*box)]
                pairs = stretches(keys)
                for most in (1, 2, 3, len(pairs), len(pairs) + 1):
                    spans = Spans(*best(pairs, most))
                    found = cover(curve(level), Box(*box), most)
                    self.assertEqual(found, Cover(spans, spans.total - len(keys)))
                    self.assertLessEqual(len(found.spans), most)
                    self.assertEqual([type(found.over), type(found.spans)], [int, Spans])
                    self.assertIs(shows_cover(curve(level), Box(*box), most, found), True)

    def test_two_equal_gaps(self):
        square, box = turning()(2), Box(1, 1, 2, 2)
        self.assertEqual(cover(square, box, 2), Cover(Spans((2, 2), (7, 13)), 4))
        self.assertEqual(cover(most=1, box=box, square=square), Cover(Spans((2, 13)), 8))
        self.assertEqual(cover(square, box, 3), Cover(Spans((2, 2), (7, 8), (13, 13)), 0))

    def test_edges(self):
        for curve in CURVES:
            for level in (0, 100):
                square = curve(level)
                self.assertEqual(cover(square, square.box(), 1), Cover(Spans((0, square.last)), 0))
                self.assertEqual(cover(square, Box(0, 0), 1000), Cover(Spans((square[0, 0], square[0, 0])), 0))

    def test_far_boxes(self):
        began = time.perf_counter()
        for curve in CURVES:
            square = curve(100)
            box = Box(FAR // 2 - 300, FAR // 2 - 1, 500, 1)
            keys = sorted(square[place] for place in box.cells())
            for most in (1, 2, 50, 1000):
                found = cover(square, box, most)
                self.assertEqual((found.spans[0][0], found.spans[-1][1]), (keys[0], keys[-1]))
                self.assertEqual(found.over, found.spans.total - 500)
                self.assertTrue(all(key in found.spans for key in keys))
                self.assertEqual(len(found.spans), min(most, len(stretches(keys))))
            raised(self, TooMany, ("spans", 1000), cover, square, Box(1, 1, FAR - 2, FAR - 2), 1)
        self.assertLess(time.perf_counter() - began, 20)

    def test_a_thousand_ranges_and_one_more(self):
        square = laced()(100)
        column = Box(7, FAR // 2, 1, 1000)
        self.assertEqual(len(cover(square, column, 1000).spans), 1000)
        self.assertEqual(len(cover(square, column, 999).spans), 999)
        for call, rest in ((cover, ()), (shows_cover, (Cover(Spans(), 0),))):
            raised(self, TooMany, ("spans", 1000), call, square, Box(7, FAR // 2, 1, 1001), 1000, *rest)
            raised(self, TooMany, ("spans", 1000), call, square, Box(7, FAR // 2, 1, 1001), 1, *rest)


class Shown(unittest.TestCase):
    def test_this_cover_alone(self):
        square, box = turning()(2), Box(1, 1, 2, 2)
        told = Spans((2, 2), (7, 13))
        self.assertIs(shows_cover(value=Cover(told, 4), most=2, box=box, square=square), True)
        for spans in (Spans((2, 8), (13, 13)), Spans((2, 2), (7, 14)), Spans((2, 13)), Spans((7, 13)), Spans()):
            self.assertIs(shows_cover(square, box, 2, Cover(spans, 4)), False)
            self.assertIs(shows_cover(square, box, 2, Cover(spans, spans.total - 4)), False)
        for over in [*WRONG, 0, 3, 5, "4"]:
            self.assertIs(shows_cover(square, box, 2, Cover(told, over)), False)
        for spans in [*WRONG, told.pairs, list(told.pairs), str(told), (told,)]:
            self.assertIs(shows_cover(square, box, 2, Cover(spans, 4)), False)
        self.assertIs(shows_cover(square, box, 2, Cover(4, told)), False)

    def test_kinds_are_compared(self):
        square, box = turning()(2), Box(0, 0, 2, 1)
        self.assertEqual(cover(square, box, 1), Cover(Spans((0, 1)), 0))
        self.assertIs(shows_cover(square, box, 1, Cover(Spans((0, 1)), False)), False)
        self.assertIs(shows_cover(turning()(2), Box(0, 1, 1, 2), 1, Cover(Spans((3, 4)), 0)), True)
        # The keys 0 and 2 of the laced curve have one other one between them.
        self.assertIs(shows_cover(laced()(1), Box(0, 0, 1, 2), 1, Cover(Spans((0, 2)), 1)), True)
        self.assertIs(shows_cover(laced()(1), Box(0, 0, 1, 2), 1, Cover(Spans((0, 2)), True)), False)

    def test_what_is_no_cover(self):
        square, box = turning()(2), Box(1, 1, 2, 2)
        for value in [*WRONG, Apart(Spans((2, 2), (7, 13)), 4), (Spans((2, 2), (7, 13)), 4), Spans((2, 2), (7, 13)), Cover]:
            self.assertIs(shows_cover(square, box, 2, value), False)


class Errors(unittest.TestCase):
    def test_in_their_order(self):
        for call, rest in ((cover, ()), (shows_cover, (None,))):
            for value in WRONG:
                if not isinstance(value, Square):
                    raised(self, BadCurve, ("square",), call, value, value, value, *rest)
                    raised(self, BadCurve, ("square",), call, value, Box(0, 0), 1, *rest)
                if not isinstance(value, Box):
                    raised(self, BadBox, ("box",), call, laced()(2), value, value, *rest)
                raised(self, BadBox, ("outside",), call, laced()(2), Box(3, 3, 1, 2), value, *rest)
                raised(self, BadMany, (value,), call, laced()(2), Box(3, 3), value, *rest)
                raised(self, BadMany, (value,), call, laced()(100), Box(1, 1, FAR - 2, FAR - 2), value, *rest)
            for value in (0, 1001):
                raised(self, BadMany, (value,), call, laced()(2), Box(3, 3), value, *rest)


if __name__ == "__main__":
    unittest.main()
