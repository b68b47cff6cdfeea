"""The examples of the document, as written."""

import os
import re
import unittest

from tests.examples import run_examples, same

BOXES = """
>>> from curveboxes.boxes import Box
>>> box = Box(1, 1, 2, 2)
>>> [box.right, box.top, box.many, (2, 2) in box, [2, 2] in box, list(box.cells())]
[2, 2, 4, True, False, [(1, 1), (2, 1), (1, 2), (2, 2)]]
>>> [str(box >> 1), str(box << 1), str(box + (3, -1)), str(box | Box(4, 0)), box & Box(3, 1), box < Box.square(2)]
['0 0 2 2', '2 2 4 4', '4 0 2 2', '1 0 4 3', None, True]
>>> box - (2, 0)
raises BadBox('x')
>>> Box.read("1 1 0 2")
raises BadText(0, 2)
"""

SPANS = """
>>> from curveboxes.spans import Spans
>>> some = Spans((9, 12), (0, 1), (2, 3), (7, 7))
>>> [str(some), len(some), some.total, some[1], some.next_in(4), list(some.gaps()), 8 in some]
['0-3 7 9-12', 3, 9, (7, 7), 7, [(4, 6), (8, 8)], False]
>>> [str(some.joined(2)), str(Spans((0, 0), (2, 2), (4, 4)).joined(2)), str(some - Spans((1, 9))), str(some & Spans((8, 8)))]
['0-3 7-12', '0 2-4', '0 10-12', 'none']
>>> Spans((1, 2), (5, 4))
raises BadSpans(1)
>>> Spans.read("0-3 5-5")
raises BadText(0, 1)
"""

CURVES = """
>>> from curveboxes.curves import Curve
>>> from curveboxes.makers import cup, laced, plain, ring, turning
>>> str(turning())
'0>1 2>0 3>0 1>2 / 0>0 1>1 3>1 2>3 / 3>3 2>2 0>2 1>0 / 3>2 1>3 0>3 2>1'
>>> str(ring())
'0>1 2>1 3>2 1>2 / 1>3 0>1 2>1 3>4 / 2>4 3>2 1>2 0>3 / 1>1 3>3 2>3 0>2 / 2>2 0>4 1>4 3>1'
>>> [str(laced()), str(~laced()), str(-laced()), str(laced() << 1), len(Curve(*[[(0, 1), (1, 0), (2, 1), (3, 0)]] * 2))]
['0>0 1>0 2>0 3>0', '0>0 2>0 1>0 3>0', '3>0 2>0 1>0 0>0', '1>0 3>0 0>0 2>0', 1]
>>> [~turning() == turning().begun(1), -(~turning() << 1) == turning(), turning() << 4 == turning(), Curve.read(str(ring())) == ring()]
[True, True, True, True]
>>> Curve([(0, 0), (1, 0), (2, 0), (2, 0)])
raises BadCurve(0)
>>> Curve.read("0>0 1>0 0>0 2>0")
raises BadText(0, 2)
"""

KIN = """
>>> from curveboxes.kin import Apart, Same, compare, kin, shows_compare
>>> [compare(laced(), cup()) == Apart(1, 1), compare(laced(), ~~laced()) == Same(), kin(laced(), laced()), shows_compare(laced(), cup(), Apart(2, 6))]
[True, True, ((0, False, False), (2, False, True)), True]
"""

SQUARES = """
>>> from curveboxes.squares import Square
>>> square = turning()(2)
>>> [[square[x, y] for x in range(4)] for y in range(4)]
[[0, 1, 14, 15], [3, 2, 13, 12], [4, 7, 8, 11], [5, 6, 9, 10]]
>>> [square.place_of(7), square.state_at(3, 0), square.side, square.last, (4, 0) in square, list(square.walk(13)), square == Square(turning(), 2)]
[(1, 2), 0, 4, 15, False, [(2, 1), (2, 0), (3, 0)], True]
>>> square[0, 4]
raises BadPlace((0, 4))
"""

RANGES = """
>>> from curveboxes.covers import Cover, cover, shows_cover
>>> from curveboxes.ranges import count, first_key, key_ahead, last_key, next_key, span_at, spans_of
>>> [count(square, box), str(spans_of(square, box)), span_at(square, box, 1), first_key(square, box), last_key(square, box), next_key(square, box, 3), key_ahead(square, box, 7)]
[3, '2 7-8 13', (7, 8), 2, 13, 7, 2]
>>> [cover(square, box, 2) == Cover(Spans((2, 2), (7, 13)), 4), cover(square, box, 1).over, cover(square, box, 9).over]
[True, 8, 0]
>>> far = Square(laced(), 100)
>>> [count(far, Box(1, 0, 10 ** 30, 1)), count(far, Box(1, 0, 1, 10 ** 30)), count(far, Box.square(100))]
[500000000000000000000000000001, 1000000000000000000000000000000, 1]
>>> count(square, Box(3, 3, 2, 1))
raises BadBox('outside')
"""

CHAINS = """
>>> from curveboxes.chains import Pages, pages, shows_pages, widest
>>> from curveboxes.joints import Far, Near, is_edgewise, is_ring, joints, shows_joints, steps
>>> [joints(laced()) == Far(2, 7), joints(plain(0, 3, 2, 1)) == Far(2, 3), steps(turning()), is_edgewise(turning()), is_ring(turning()), is_ring(ring())]
[True, True, ((-1, 0), (0, -1), (0, 1), (1, 0)), True, False, True]
>>> [pages(turning(), 2).shapes, pages(turning(), 3).shapes, widest(turning(), 3), pages(laced(), 1).tables]
[((1, 2, 1, 0), (2, 1, 1, 1)), ((1, 3, 2, 3), (2, 2, 1, 0), (3, 1, 3, 3)), ((1, 3), (2, 2), (3, 1)), {1: (((0,), ()),)}]
>>> [shows_joints(laced(), Far(3, 31)), shows_pages(turning(), 3, pages(turning(), 3)), bool(joints(laced()))]
[True, True, False]
>>> pages(laced(), 2)
raises Endless(2, 7)
"""

RULES = """
>>> from curveboxes.rules import AtLeast, AtMost, Begins, Both, Counting, Either, Follows, Not, Placing, Rule, Simple
>>> from curveboxes.windows import Window, family, layers, refined, tables, window_at
>>> shown = window_at(square, box)
>>> [shown == Window(2, 2, (1, 2, 2, 1), ((2, 3),)), shown.ranges, family(3, 1), family(2, 2)]
[True, 3, ((1, 1), (2, 1), (3, 1)), ((1, 1), (1, 2), (2, 1), (2, 2))]
>>> [(level, x, y, window.follows) for level, x, y, window in layers(laced(), 2, 2)]
[(1, 0, 0, ((0, 1), (1, 2), (2, 3))), (2, 1, 0, ((2, 1),)), (2, 0, 1, ((0, 1), (2, 3))), (2, 1, 1, ())]
>>> [refined(turning(), Window(1, 1, (0,), ()), 1, 0, 1, 2) == Window(1, 2, (2, 0), ((1, 0),)), [len(tables(laced(), 2, 2)[size]) for size in family(2, 2)]]
[True, [1, 1, 2, 4]]
>>> rule = AtMost(2, 2, 3) & ~Follows(2, 2, (0, 0), (1, 1))
>>> [str(rule), rule(shown), rule.many, Rule.read(str(rule)) == rule, Begins(2, 2, (1, 1))(shown), isinstance(Begins(1, 1, (0, 0)), Placing)]
['( at most 3 of 2 2 and not 1 1 follows 0 0 of 2 2 )', True, 4, True, False, True]
>>> AtMost(2, 2, 3) | AtMost(2, 1, 3)
raises Unlike('size')
"""

JUDGING = """
>>> from curveboxes.judging import Always, Breach, Numbers, Twin, judge, most_ranges, never_more, numbers
>>> from curveboxes.look_judging import shows_judge, shows_never_more, shows_numbers
>>> [numbers(laced(), 2, 2).rows, numbers(turning(), 2, 2).rows]
[((1, 1, 0, 0), (2, 2, 0, 1), (3, 2, 1, 0), (4, 2, 1, 1)), ((1, 1, 0, 0), (2, 2, 1, 0), (3, 2, 1, 1), (4, 3, 3, 1))]
>>> [judge(turning(), AtMost(2, 2, 3)) == Breach(3, 3, 1), bool(judge(turning(), AtMost(2, 2, 4))), most_ranges(laced(), 1, 16), numbers(laced(), 2, 1).rows]
[True, True, 16, ((1, 1, 0, 0), (2, 2, 1, 0))]
>>> [never_more(laced(), turning(), 2, 1) == Breach(2, 1, 2), never_more(turning(), laced(), 2, 1) == Breach(1, 0, 0), bool(never_more(turning(), laced(), 2, 1, 1))]
[True, True, True]
>>> [shows_judge(turning(), AtMost(2, 2, 3), Breach(4, 7, 1)), shows_judge(turning(), AtMost(2, 2, 3), Breach(4, 0, 0)), shows_judge(laced(), AtMost(2, 2, 4), judge(laced(), AtMost(2, 2, 4)))]
[True, False, True]
"""

STORES = """
>>> from curveboxes.stores import Scan, Store, foes
>>> store = Store(turning(), 2)
>>> store[0, 1] = 5
>>> store[2, 3] = 5
>>> [foes(square, box), store.scan(box) == Scan((), 3, 2), list(store), store.deeds]
[((0, 1), (2, 3)), True, [(0, 1, 5), (2, 3, 5)], 2]
>>> store[2, 2] = 7
>>> [store.scan(box) == Scan(((2, 2, 7),), 3, 3), store.sweep(box, 2) == Scan(((2, 2, 7),), 2, 2), store.all_of(box).passed, [str(lot) for lot, rows in store.lots(2)]]
[True, True, 3, ['0 1 3 2', '2 3 1 1']]
>>> store.exchange(laced(), 2)
>>> [list(store), store.scan(box) == Scan(((2, 2, 7),), 1, 2), store.undo(), store.curve_now == turning()]
[[(0, 1, 5), (2, 2, 7), (2, 3, 5)], True, 'exchange', True]
>>> store.level_now = 1
raises Outside((2, 2))
"""

BOOKS = """
>>> from curveboxes.books import Book
>>> book = Book(((2, 2), 1), ((2, 1), 3), ((2, 2), 2))
>>> [str(book), book[2, 2], len(book), book.cost(laced()), book.cost(turning()), book.best(turning(), laced())]
['3*2x1 3*2x2', 3, 2, 18, 18, ((18, 0), (18, 1))]
>>> Book(((4, 5), 1))
raises BadBook(0)
"""

DESK = """
>>> from curveboxes.desk import Desk
>>> Desk().run("maker turning", "level 2", "key 1 2", "place 7", "spans 1 1 2 2", "cover 2 1 1 2 2", "next 3 1 1 2 2", "judge at most 3 of 2 2", "most 2 2", "joints", "page 3")
['ok', 'ok', '7', '1 2', '2 7-8 13', '2 7-13 over 4', '7', 'breach 3 3 1', '4 at 3 3 1', 'near 16', '1x3 2x2 3x1']
"""


class Examples(unittest.TestCase):
    def test_all_in_order(self):
        # One dict of names for all: later examples use what earlier ones bound.
        names = {}
        for text in (BOXES, SPANS, CURVES, KIN, SQUARES, RANGES, CHAINS, RULES, JUDGING, STORES, BOOKS, DESK):
            run_examples(self, text, names)


class Readme(unittest.TestCase):
    def test_its_code_tells_what_it_says(self):
        path = os.path.join(os.path.dirname(os.path.dirname(os.path.abspath(__file__))), "README.md")
        with open(path, "rb") as held:
            blocks = re.findall(r"```python\n(.*?)```", held.read().decode("ascii"), re.S)
        self.assertGreater(len(blocks), 3)
        names = {}
        for block in blocks:
            exec(block, names)
            self.check(block, names)

    def check(self, block, names):
        """Lines `CODE  # VALUE`, with the value perhaps on a line of its own, and a colon and words behind it."""
        last = ""
        for line in block.split("\n"):
            code, _, told = line.partition("#")
            last = code.strip() or last
            found = re.match(r"('.*'|True|\(.*\)(, \d+)*|\[.*\]|\d+)(:|,|$)", told.strip())
            if found and not re.match(r"(with|[a-z_]+ =|from|import)\b", last) and "undo" not in last:
                with self.subTest(line):
                    self.assertTrue(same(eval(last, names), eval(found[1], names)), eval(last, names))


class TheRunner(unittest.TestCase):
    def test_it_fails_where_it_should(self):
        for text in (">>> 1 + 1\n3", ">>> [1]\n(1,)", ">>> 1\nTrue", ">>> 1\nraises BadBox('x')"):
            with self.assertRaises(AssertionError):
                case = unittest.TestCase()
                run_examples(case, text, {})


if __name__ == "__main__":
    unittest.main()
