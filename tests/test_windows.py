"""Windows: those of boxes, refined ones, and all that occur."""

import itertools
import random
import time
import unittest

from curveboxes.boxes import Box
from curveboxes.covers import Cover
from curveboxes.curves import Curve
from curveboxes.errors import BadBox, BadCurve, BadMany, BadRule, TooMany
from curveboxes.makers import cup, laced, plain, ring, turning
from curveboxes.ranges import count
from curveboxes.squares import Square
from curveboxes.windows import Window, family, layers, refined, tables, window_at
from tests.reference import (
    LEVELS_100, LEVELS_101, WINDOWS_2000, WINDOWS_2001, boxes_in, cells, grown, random_rows, some_rows, stretches,
)
from tests.values import HUGE, NEGATIVE, OWN, STRANGE, raised

WRONG = [*STRANGE, *OWN, *HUGE, *NEGATIVE]
CURVES = [laced(), cup(), turning(), ring(), plain(2, 0, 1, 3), *[Curve(*rows) for rows in some_rows(5, 3)]]
SIZES = [size for size in itertools.product(range(1, 17), repeat=2) if size[0] * size[1] <= 16]
FAR = 2 ** 100


def told_window(told, x, y, width, height):
    """The window of a box, from the keys and states of the places of its level."""
    rows = [told[place] for place in cells(x, y, width, height)]
    follows = [
        (one, other) for one, (key, _) in enumerate(rows) for other, (after, _) in enumerate(rows) if after == key + 1
    ]
    return (width, height, tuple(state for _, state in rows), tuple(sorted(follows)))


def marked(window):
    return window.width, window.height, window.states, window.follows


def told_layers(curve, width, height, levels):
    """The windows of a size that occur up to a level, each with its first level, y and x."""
    found = {}
    for level in range(levels + 1):
        told = grown(curve.rows, level)
        for y in range(2 ** level - height + 1):
            for x in range(2 ** level - width + 1):
                found.setdefault(told_window(told, x, y, width, height), (level, x, y))
    return [(*place, mark) for mark, place in found.items()]


def told_family(width, height):
    found = {(width, height)}
    while True:
        more = set(found)
        for w, h in found:
            # The parents of the columns x to x + w - 1, and of such rows, from an even and from an odd one on.
            more |= {((x + w - 1) // 2 - x // 2 + 1, (y + h - 1) // 2 - y // 2 + 1) for x in (4, 5) for y in (4, 5)}
        if more == found:
            return tuple(sorted(found))
        found = more


class OfBoxes(unittest.TestCase):
    def test_all_boxes_of_low_levels(self):
        for curve, level in itertools.product(CURVES, range(4)):
            told = grown(curve.rows, level)
            for box in list(boxes_in(2 ** level))[::3]:
                if box[2] * box[3] <= 16:
                    window = window_at(curve(level), Box(*box))
                    self.assertEqual(marked(window), told_window(told, *box))
                    self.assertEqual(window, Window(*told_window(told, *box)))
                    self.assertEqual(window.ranges, len(stretches(told[place][0] for place in cells(*box))))

    def test_far_boxes(self):
        chance = random.Random(1)
        for curve in CURVES:
            square = curve(100)
            for width, height in ((1, 1), (2, 2), (16, 1), (4, 4), (1, 15)):
                x, y = chance.randrange(FAR - 16), chance.randrange(FAR - 16)
                for box in (Box(x, y, width, height), Box(FAR - width, FAR - height, width, height)):
                    window = window_at(box=box, square=square)
                    told = {place: (square[place], square.state_at(*place)) for place in box.cells()}
                    self.assertEqual(marked(window), told_window(told, box.x, box.y, width, height))
                    self.assertEqual(window.ranges, count(square, box))

    def test_the_errors_in_their_order(self):
        for value in WRONG:
            if not isinstance(value, Square):
                raised(self, BadCurve, ("square",), window_at, value, value)
                raised(self, BadCurve, ("square",), window_at, value, Box(0, 0, 17))
            if not isinstance(value, Box):
                raised(self, BadBox, ("box",), window_at, laced()(2), value)
        raised(self, BadBox, ("outside",), window_at, laced()(2), Box(0, 0, 17, 1))
        raised(self, BadBox, ("outside",), window_at, laced()(2), Box(3, 3, 1, 2))
        for box in (Box(0, 0, 17), Box(3, 1, 1, 17), Box(1, 1, 3, 6), Box.square(100)):
            raised(self, TooMany, ("cells", 16), window_at, laced()(100), box)

    def test_ranges_of_windows_with_a_ring(self):
        self.assertEqual(Window(2, 1, (0, 0), ((0, 1), (1, 0))).ranges, 0)
        self.assertEqual(Window(2, 2, (0,) * 4, ((0, 1),)).ranges, 3)


class Family(unittest.TestCase):
    def test_all_sizes(self):
        for size in SIZES:
            self.assertEqual(family(*size), told_family(*size))
            self.assertIn((1, 1), family(*size))
        self.assertEqual(family(height=1, width=3), ((1, 1), (2, 1), (3, 1)))
        self.assertEqual(family(1, 1), ((1, 1),))
        self.assertEqual(family(1, 16), ((1, 1), (1, 2), (1, 3), (1, 4), (1, 5), (1, 8), (1, 9), (1, 16)))

    def test_the_errors_in_their_order(self):
        for value in [*WRONG, 0, 17]:
            raised(self, BadMany, (value,), family, value, None)
            raised(self, BadMany, (value,), family, 16, value)
        for width, height in itertools.product(range(1, 17), repeat=2):
            if width * height > 16:
                raised(self, TooMany, ("cells", 16), family, width, height)


class Refined(unittest.TestCase):
    def test_against_the_next_level(self):
        chance = random.Random(2)
        for curve, level in itertools.product(CURVES, (0, 1, 2, 3, 99)):
            square, finer = curve(level), curve(level + 1)
            for width, height in ((1, 1), (2, 1), (1, 2), (2, 2), (3, 3), (4, 4), (8, 2), (1, 16)):
                if max(width, height) > square.side:
                    continue
                box = Box(chance.randrange(square.side - width + 1), chance.randrange(square.side - height + 1), width, height)
                window = window_at(square, box)
                for _ in range(30):
                    size = chance.choice([size for size in SIZES if size[0] <= 2 * width and size[1] <= 2 * height])
                    x, y = chance.randrange(2 * width - size[0] + 1), chance.randrange(2 * height - size[1] + 1)
                    told = window_at(finer, Box(2 * box.x + x, 2 * box.y + y, *size))
                    self.assertEqual(refined(curve, window, x, y, *size), told)

    def test_by_name(self):
        window = Window(1, 1, (0,), ())
        found = refined(height=2, width=1, y=0, x=1, window=window, curve=turning())
        self.assertEqual(found, Window(1, 2, (2, 0), ((1, 0),)))

    def test_follows_in_a_ring(self):
        window = Window(2, 1, (0, 0), ((0, 1), (1, 0)))
        found = refined(laced(), window, 0, 0, 4, 2)
        self.assertEqual(found.follows, ((0, 1), (1, 4), (2, 3), (3, 6), (4, 5), (5, 2), (6, 7), (7, 0)))
        self.assertEqual(found.ranges, 0)
        self.assertEqual(refined(laced(), found, 0, 0, 8, 2).width, 8)

    def test_by_the_window_alone(self):
        # These states stand nowhere beside one another; the rules of the refining hold all the same.
        window = Window(2, 1, (3, 3), ((1, 0),))
        # The quarters 1 and 3 of the first place have the digits 1 and 0, the quarters 0 and 2 of the other one 2 and 3.
        self.assertEqual(str(turning()).split(" / ")[3], "3>2 1>3 0>3 2>1")
        self.assertEqual(refined(turning(), window, 1, 0, 2, 2), Window(2, 2, (3, 3, 2, 1), ((1, 3), (2, 0), (3, 2))))

    def test_what_is_no_window_of_the_curve(self):
        good = (2, 2, (0, 1, 2, 3), ((0, 1), (1, 3), (3, 2)))
        self.assertTrue(refined(turning(), Window(*good), 0, 0, 1, 1))
        wrong = [value for value in WRONG]
        wrong += [good, Cover(good, good), Window, Window(good, good, good, good)]
        wrong += [Window(*good[:at], value, *good[at + 1:]) for at in range(4) for value in WRONG if value not in ((), ((0, 1), (2, 3)))]
        wrong += [
            Window(4, 1, good[2], [(0, 1)]), Window(2, 2, list(good[2]), good[3]), Window(2, 2, good[2][:3], good[3]),
            Window(2, 2, (*good[2], 0), good[3]), Window(2, 2, (0, 1, 2, 4), good[3]), Window(2, 2, (0, 1, 2, -1), good[3]),
            Window(2, 2, (False, 1, 2, 3), good[3]), Window(2, 1, good[2], good[3]), Window(17, 1, (0,) * 17, ()),
            Window(3, 6, (0,) * 18, ()), Window(1, 17, (0,) * 17, ()), Window(0, 2, (), ()), Window(2, True, (0, 1), ()),
        ]
        for follows in (
            ((0, 0),), ((0, 4),), ((4, 0),), ((-1, 0),), ((0, 1), (0, 2)), ((0, 1), (2, 1)), ((1, 3), (0, 1)), ((0, 1), (0, 1)),
            ([0, 1],), ((0, 1, 2),), ((0, True),), ((0, 1), None), ((0, "1"),), (0, 1), ((0, 1), (1, 2), (2, 3), (3, 0), (3, 0)),
        ):
            wrong.append(Window(*good[:3], follows))
        for value in wrong:
            raised(self, BadRule, ("window",), refined, turning(), value, 0, 0, 1, 1)
            raised(self, BadRule, ("window",), refined, turning(), value, None, 99, 16, 1)
        raised(self, BadRule, ("window",), refined, laced(), Window(*good), 0, 0, 1, 1)
        self.assertTrue(refined(turning(), Window(*good[:3], ((0, 1), (1, 2), (2, 3), (3, 0))), 3, 3, 1, 1))

    def test_the_errors_in_their_order(self):
        window = Window(2, 1, (0, 0), ())
        for value in [*WRONG, 0, 17]:
            if not isinstance(value, Curve):
                raised(self, BadCurve, ("curve",), refined, value, value, value, value, value, value)
            raised(self, BadMany, (value,), refined, laced(), value, value, value, value, None)
            raised(self, BadMany, (value,), refined, laced(), value, value, value, 16, value)
            raised(self, TooMany, ("cells", 16), refined, laced(), value, value, value, 16, 2)
            raised(self, BadRule, ("window",), refined, laced(), value, value, value, 8, 2)
            if value != 0 or value is False:
                raised(self, BadBox, ("outside",), refined, laced(), window, value, 0, 1, 1)
                raised(self, BadBox, ("outside",), refined, laced(), window, 0, value, 1, 1)
        for x, y, width, height in ((4, 0, 1, 1), (0, 2, 1, 1), (1, 0, 4, 1), (0, 1, 1, 2), (0, 0, 5, 1), (0, 0, 1, 3)):
            raised(self, BadBox, ("outside",), refined, laced(), window, x, y, width, height)
        self.assertEqual(refined(laced(), window, 0, 0, 4, 2).width, 4)


class Occurring(unittest.TestCase):
    def test_against_all_places_of_low_levels(self):
        for curve in CURVES:
            for width, height in ((1, 1), (2, 1), (1, 3), (2, 2), (3, 2), (4, 1), (4, 4)):
                found = list(layers(curve, width, height))
                deep = max(row[0] for row in found)
                if deep < 7:
                    told = told_layers(curve, width, height, min(deep + 1, 6))
                    self.assertEqual([(*row[:3], marked(row[3])) for row in found], told)
                else:
                    told = told_layers(curve, width, height, 6)
                    self.assertEqual([(*row[:3], marked(row[3])) for row in found if row[0] < 7], told)

    def test_rows_and_tables(self):
        for curve in CURVES:
            for width, height in ((1, 1), (2, 2), (3, 4), (5, 1)):
                found = tables(curve=curve, width=width, height=height)
                self.assertEqual(sorted(found), list(family(width, height)))
                for size, windows in found.items():
                    rows = list(layers(curve, *size))
                    self.assertIsInstance(windows, tuple)
                    self.assertEqual(windows, tuple(row[3] for row in rows))
                    self.assertEqual(len({marked(window) for window in windows}), len(windows))
                    places = [(level, y, x) for level, x, y, _ in rows]
                    self.assertEqual(places, sorted(set(places)))
                    for level, x, y, window in rows[::7]:
                        self.assertEqual(window_at(curve(level), Box(x, y, *size)), window)
                        self.assertEqual([type(part) for part in (level, x, y)], [int] * 3)

    def test_the_tables_are_closed(self):
        for curve in (turning(), ring(), Curve(*random_rows(random.Random(3), 3))):
            for width, height in ((2, 2), (4, 3), (5, 1)):
                found = tables(curve, width, height)
                self.assertIn(Window(1, 1, (0,), ()), found[(1, 1)])
                known = {size: {marked(window) for window in windows} for size, windows in found.items()}
                for size, windows in found.items():
                    for (w, h), (x, y) in itertools.product(found, itertools.product((0, 1), repeat=2)):
                        # Where a window has just the parents of the box.
                        if ((x + w + 1) // 2, (y + h + 1) // 2) == size:
                            for window in windows:
                                self.assertIn(marked(refined(curve, window, x, y, w, h)), known[(w, h)])

    def test_the_dict_belongs_to_the_caller(self):
        found = tables(laced(), 2, 1)
        found.clear()
        self.assertEqual(len(tables(laced(), 2, 1)), 2)

    def test_a_generator(self):
        rows = layers(height=2, width=2, curve=turning())
        self.assertEqual(next(rows)[:3], (1, 0, 0))
        self.assertEqual(len([next(rows), *rows]) + 1, len(tables(turning(), 2, 2)[(2, 2)]))
        self.assertEqual(list(rows), [])

    def test_two_thousand_windows_and_one_more(self):
        began = time.perf_counter()
        most, more = Curve.read(WINDOWS_2000), Curve.read(WINDOWS_2001)
        self.assertEqual(sum(map(len, tables(most, 4, 4).values())), 2000)
        self.assertEqual(len(list(layers(most, 4, 4))), len(tables(most, 4, 4)[(4, 4)]))
        raised(self, TooMany, ("windows", 2000), tables, more, 4, 4)
        raised(self, TooMany, ("windows", 2000), first_row, more, 4, 4)
        self.assertTrue(first_row(more, 2, 2))
        self.assertLess(time.perf_counter() - began, 20)

    def test_levels_to_100_and_one_more(self):
        curve = Curve.read(LEVELS_100)
        rows = list(layers(curve, 2, 1))
        self.assertEqual(rows[-1][0], 100)
        for level, x, y, window in rows:
            self.assertEqual(window_at(curve(level), Box(x, y, 2, 1)), window)
        beyond = Curve.read(LEVELS_101)
        raised(self, TooMany, ("levels", 100), tables, beyond, 2, 1)
        raised(self, TooMany, ("levels", 100), first_row, beyond, 2, 1)
        raised(self, TooMany, ("levels", 100), first_row, beyond, 2, 2)
        raised(self, TooMany, ("levels", 100), tables, beyond, 3, 1)
        self.assertTrue(tables(beyond, 1, 16))
        # Too many windows are told ahead of a level that is too far, whatever comes up first.
        raised(self, TooMany, ("windows", 2000), tables, beyond, 4, 4)
        raised(self, TooMany, ("windows", 2000), first_row, beyond, 4, 4)

    def test_the_errors_in_their_order(self):
        for call in (tables, first_row):
            for value in [*WRONG, 0, 17]:
                if not isinstance(value, Curve):
                    raised(self, BadCurve, ("curve",), call, value, value, value)
                raised(self, BadMany, (value,), call, Curve.read(WINDOWS_2001), value, None)
                raised(self, BadMany, (value,), call, Curve.read(WINDOWS_2001), 16, value)
            raised(self, TooMany, ("cells", 16), call, Curve.read(WINDOWS_2001), 4, 5)
            raised(self, TooMany, ("cells", 16), call, laced(), 16, 16)


def first_row(curve, width, height):
    return next(layers(curve, width, height))


if __name__ == "__main__":
    unittest.main()
