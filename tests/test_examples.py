"""The examples of the document, as written."""

import unittest

from tests.examples import run_examples

BOXES = """
>>> from curveboxes.boxes import Box
>>> box = Box(1, 1, 2, 2)
>>> [box.right, box.top, box.many, (2, 2) in box, [2, 2] in box, list(box.cells())]
[2, 2, 4, True, False, [(1, 1), (2, 1), (1, 2), (2, 2)]]
>>> [str(box >> 1), str(box << 1), str(box + (3, -1)), str(box | Box(4, 0)), box & Box(3, 1), box < Box.square(2)]
['0 0 2 2', '2 2 4 4', '4 0 2 2', '1 0 4 3', None, True]
>>> box - (2, 0)
raises BadBox('x')
>>> Box.read("1 1 0 2")
raises BadText(0, 2)
"""

SPANS = """
>>> from curveboxes.spans import Spans
>>> some = Spans((9, 12), (0, 1), (2, 3), (7, 7))
>>> [str(some), len(some), some.total, some[1], some.next_in(4), list(some.gaps()), 8 in some]
['0-3 7 9-12', 3, 9, (7, 7), 7, [(4, 6), (8, 8)], False]
>>> [str(some.joined(2)), str(Spans((0, 0), (2, 2), (4, 4)).joined(2)), str(some - Spans((1, 9))), str(some & Spans((8, 8)))]
['0-3 7-12', '0 2-4', '0 10-12', 'none']
>>> Spans((1, 2), (5, 4))
raises BadSpans(1)
>>> Spans.read("0-3 5-5")
raises BadText(0, 1)
"""

CURVES = """
>>> from curveboxes.curves import Curve
>>> from curveboxes.makers import cup, laced, plain, ring, turning
>>> str(turning())
'0>1 2>0 3>0 1>2 / 0>0 1>1 3>1 2>3 / 3>3 2>2 0>2 1>0 / 3>2 1>3 0>3 2>1'
>>> str(ring())
'0>1 2>1 3>2 1>2 / 1>3 0>1 2>1 3>4 / 2>4 3>2 1>2 0>3 / 1>1 3>3 2>3 0>2 / 2>2 0>4 1>4 3>1'
>>> [str(laced()), str(~laced()), str(-laced()), str(laced() << 1), len(Curve(*[[(0, 1), (1, 0), (2, 1), (3, 0)]] * 2))]
['0>0 1>0 2>0 3>0', '0>0 2>0 1>0 3>0', '3>0 2>0 1>0 0>0', '1>0 3>0 0>0 2>0', 1]
>>> [~turning() == turning().begun(1), -(~turning() << 1) == turning(), turning() << 4 == turning(), Curve.read(str(ring())) == ring()]
[True, True, True, True]
>>> Curve([(0, 0), (1, 0), (2, 0), (2, 0)])
raises BadCurve(0)
>>> Curve.read("0>0 1>0 0>0 2>0")
raises BadText(0, 2)
"""

SQUARES = """
>>> from curveboxes.squares import Square
>>> square = turning()(2)
>>> [[square[x, y] for x in range(4)] for y in range(4)]
[[0, 1, 14, 15], [3, 2, 13, 12], [4, 7, 8, 11], [5, 6, 9, 10]]
>>> [square.place_of(7), square.state_at(3, 0), square.side, square.last, (4, 0) in square, list(square.walk(13)), square == Square(turning(), 2)]
[(1, 2), 0, 4, 15, False, [(2, 1), (2, 0), (3, 0)], True]
>>> square[0, 4]
raises BadPlace((0, 4))
"""


class Examples(unittest.TestCase):
    def test_all_in_order(self):
        # One dict of names for all: later examples use what earlier ones bound.
        names = {}
        for text in (BOXES, SPANS, CURVES, SQUARES):
            run_examples(self, text, names)


class TheRunner(unittest.TestCase):
    def test_it_fails_where_it_should(self):
        for text in (">>> 1 + 1\n3", ">>> [1]\n(1,)", ">>> 1\nTrue", ">>> 1\nraises BadBox('x')"):
            with self.assertRaises(AssertionError):
                case = unittest.TestCase()
                run_examples(case, text, {})


if __name__ == "__main__":
    unittest.main()
