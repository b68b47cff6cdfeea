"""Judging at all levels and places, held against all boxes of the first levels."""

import itertools
import random
import time
import unittest

from curveboxes.boxes import Box
from curveboxes.curves import Curve
from curveboxes.errors import BadCurve, BadMany, BadRule, TooMany
from curveboxes.judging import Always, Breach, Numbers, Twin, judge, most_ranges, never_more, numbers
from curveboxes.makers import cup, laced, plain, ring, turning
from curveboxes.ranges import count
from curveboxes.rules import AtLeast, AtMost, Begins, Follows, Rule
from curveboxes.windows import Window, family, tables, window_at
from tests.reference import (
    LEVELS_100, LEVELS_101, WINDOWS_2000, WINDOWS_2001, cells, keys_of, some_rows, stretches,
)
from tests.values import HUGE, NEGATIVE, OWN, STRANGE, raised

WRONG = [*STRANGE, *OWN, *HUGE, *NEGATIVE]
CURVES = [laced(), cup(), turning(), ring(), plain(2, 0, 1, 3), *[Curve(*rows) for rows in some_rows(6, 3)]]
SIZES = ((1, 1), (2, 1), (1, 2), (2, 2), (3, 1), (3, 2), (4, 4), (5, 3), (1, 7), (16, 1))
LAST = 4


def places_in_order(width, height, last=LAST):
    """All (level, x, y) of boxes of a size up to a level, by level, then y, then x."""
    for level in range(last + 1):
        for y in range(2 ** level - height + 1):
            for x in range(2 ** level - width + 1):
                yield level, x, y


def told_ranges(curve, width, height, last=LAST):
    """For each of these places how many ranges the box has."""
    told = [keys_of(curve.rows, level) for level in range(last + 1)]
    return {
        (level, x, y): len(stretches(told[level][place] for place in cells(x, y, width, height)))
        for level, x, y in places_in_order(width, height, last)
    }


def first_of(found):
    """The first place for which something is so, in the order of levels, then y, then x; or None."""
    return min([(level, y, x) for level, x, y in found], default=None)


def turned_size(width, height, turns):
    return (height, width) if turns % 2 else (width, height)


class Judged(unittest.TestCase):
    def test_against_all_places_of_the_first_levels(self):
        for curve, (width, height) in itertools.product(CURVES, SIZES):
            told = told_ranges(curve, width, height)
            for number in range(0, 17):
                for rule, holds in (
                    (AtMost(width, height, number), lambda many: many <= number),
                    (AtLeast(width, height, number), lambda many: many >= number),
                ):
                    self.check(curve, rule, [place for place, many in told.items() if not holds(many)])

    def check(self, curve, rule, broken):
        try:
            found = judge(curve, rule)
        except TooMany:
            self.assertRaises(TooMany, tables, curve, rule.width, rule.height)
            return
        first = first_of(broken)
        if isinstance(found, Always):
            self.assertIs(bool(found), True)
            self.assertIsNone(first)
            self.assertEqual(found.tables, tables(curve, rule.width, rule.height))
            self.assertTrue(all(rule(window) for window in found.tables[rule.width, rule.height]))
        else:
            self.assertIs(type(found), Breach)
            self.assertIs(bool(found), False)
            if first is None:
                self.assertGreater(found.level, LAST)
            else:
                self.assertEqual((found.level, found.y, found.x), first)
            box = Box(found.x, found.y, rule.width, rule.height)
            self.assertIs(rule(window_at(curve(found.level), box)), False)

    def test_other_rules(self):
        chance = random.Random(1)
        for curve in CURVES:
            for _ in range(30):
                width, height = chance.choice(SIZES[1:5])
                one, other = chance.sample(cells(0, 0, width, height), 2)
                rule = chance.choice((Follows(width, height, one, other), Begins(width, height, one)))
                rule = chance.choice((rule, ~rule, rule | AtMost(width, height, 2), ~rule & AtLeast(width, height, 2)))
                broken = [
                    (level, x, y) for level, x, y in places_in_order(width, height)
                    if not rule(window_at(curve(level), Box(x, y, width, height)))
                ]
                self.check(curve, rule, broken)

    def test_a_rule_that_holds_everywhere_and_one_that_holds_nowhere(self):
        for curve in CURVES:
            self.assertEqual(judge(rule=AtMost(2, 2, 16), curve=curve), Always(tables(curve, 2, 2)))
            self.assertEqual(judge(curve, AtLeast(2, 2, 0)), Always(tables(curve, 2, 2)))
            self.assertEqual(judge(curve, AtMost(1, 1, 0)), Breach(0, 0, 0))
            self.assertEqual(judge(curve, AtMost(2, 2, 0)), Breach(1, 0, 0))
            self.assertEqual(judge(curve, AtMost(5, 3, 0)), Breach(3, 0, 0))
            self.assertEqual(judge(curve, ~AtMost(1, 1, 16)), Breach(0, 0, 0))
            self.assertIs(type(judge(curve, Begins(1, 1, (0, 0)))), Always)

    def test_the_least_row_comes_ahead_of_the_least_column(self):
        # Of the boxes with three ranges of the laced curve at level 2 that at (1, 0) is lower than that at (0, 1).
        self.assertEqual(judge(laced(), ~(AtLeast(2, 2, 3) & AtMost(2, 2, 3))), Breach(2, 1, 0))
        self.assertEqual(judge(laced(), AtMost(2, 2, 1)), Breach(2, 1, 0))

    def test_rows_columns_and_squares_of_the_laced_curve(self):
        # In a row each second place is followed by the next one, in a column none; squares are cut like both.
        for many in range(2, 17):
            self.assertIs(type(judge(laced(), AtMost(many, 1, many // 2 + 1))), Always)
            self.assertIs(type(judge(laced(), AtLeast(many, 1, (many + 1) // 2))), Always)
            self.assertIs(type(judge(laced(), AtMost(many, 1, many // 2))), Breach)
            self.assertIs(type(judge(laced(), AtLeast(1, many, many) & AtMost(1, many, many))), Always)
            self.assertEqual(judge(~laced(), AtMost(1, many, many // 2 + 1)), Always(tables(~laced(), 1, many)))
        for many in (2, 3, 4):
            most = most_ranges(laced(), many, many)
            self.assertEqual(most, max(told_ranges(laced(), many, many).values()))
            self.assertIs(type(judge(laced(), AtMost(many, many, most))), Always)

    def test_what_a_caller_does_to_a_dict(self):
        found = judge(laced(), AtMost(2, 1, 2))
        found.tables.clear()
        self.assertEqual(judge(laced(), AtMost(2, 1, 2)), Always(tables(laced(), 2, 1)))

    def test_the_errors_in_their_order(self):
        for value in WRONG:
            if not isinstance(value, Curve):
                raised(self, BadCurve, ("curve",), judge, value, value)
                raised(self, BadCurve, ("curve",), judge, value, AtMost(4, 4, 0))
            raised(self, BadRule, ("rule",), judge, laced(), value)
        raised(self, BadRule, ("rule",), judge, laced(), Rule)
        raised(self, BadRule, ("rule",), judge, Curve.read(WINDOWS_2001), str(AtMost(4, 4, 0)))

    def test_too_many_whatever_the_rule_is(self):
        for rule in (AtMost(4, 4, 0), AtMost(4, 4, 16), AtLeast(4, 4, 16), Begins(4, 4, (0, 0))):
            raised(self, TooMany, ("windows", 2000), judge, Curve.read(WINDOWS_2001), rule)
            self.assertIn(type(judge(Curve.read(WINDOWS_2000), rule)), (Always, Breach))
        for rule in (AtMost(2, 1, 0), AtMost(2, 1, 16), AtLeast(2, 1, 2)):
            raised(self, TooMany, ("levels", 100), judge, Curve.read(LEVELS_101), rule)
            self.assertIn(type(judge(Curve.read(LEVELS_100), rule)), (Always, Breach))


class Counted(unittest.TestCase):
    def test_against_all_places_of_the_first_levels(self):
        for curve, (width, height) in itertools.product(CURVES, SIZES):
            try:
                found = numbers(curve, width, height)
            except TooMany:
                self.assertRaises(TooMany, tables, curve, width, height)
                continue
            self.assertIs(type(found), Numbers)
            self.assertEqual(found.tables, tables(curve, width, height))
            told = told_ranges(curve, width, height)
            self.assertEqual(list(found.rows), sorted(set(found.rows)))
            self.assertEqual(len({row[0] for row in found.rows}), len(found.rows))
            for row in found.rows:
                self.assertEqual([type(part) for part in row], [int] * 4)
                number, level, x, y = row
                self.assertEqual(count(curve(level), Box(x, y, width, height)), number)
                first = first_of([place for place, many in told.items() if many == number])
                if level <= LAST:
                    self.assertEqual((level, y, x), first)
                else:
                    self.assertIsNone(first)
            self.assertLessEqual(set(told.values()), {row[0] for row in found.rows})
            self.assertEqual(most_ranges(curve, width, height), found.rows[-1][0])

    def test_a_single_place_and_rows_columns_and_squares(self):
        for curve in CURVES:
            self.assertEqual(numbers(curve, 1, 1).rows, ((1, 0, 0, 0),))
            self.assertEqual(most_ranges(height=1, width=1, curve=curve), 1)
        # In a row of the laced curve each second place is followed, in a column none.
        for many in range(1, 17):
            self.assertEqual(most_ranges(laced(), many, 1), many // 2 + 1)
            self.assertEqual([row[0] for row in numbers(laced(), 1, many).rows], [many])
        self.assertEqual(numbers(laced(), 4, 1).rows, ((2, 2, 0, 0), (3, 3, 1, 0)))
        self.assertEqual(numbers(laced(), 2, 2).rows, ((1, 1, 0, 0), (2, 2, 0, 1), (3, 2, 1, 0), (4, 2, 1, 1)))
        self.assertEqual(numbers(laced(), 4, 4).rows[0], (1, 2, 0, 0))

    def test_forms_of_a_curve(self):
        for curve, (width, height) in itertools.product([cup(), turning(), ring(), *CURVES[-3:]], SIZES[:7]):
            told = self.seen(curve, width, height)
            if told is None:
                continue
            rows = [row[:2] for row in told]
            # Reversed, each key follows where it was followed: the boxes have as many ranges, at the same places.
            self.assertEqual(self.seen(-curve, width, height), told)
            self.assertEqual([row[:2] for row in self.seen(~curve, height, width)], rows)
            for turns in range(-1, 5):
                size = turned_size(width, height, turns)
                self.assertEqual([row[:2] for row in self.seen(curve << turns, *size)], rows)

    def seen(self, curve, width, height):
        try:
            return numbers(curve, width, height).rows
        except TooMany:
            return None

    def test_the_errors_in_their_order(self):
        for call in (numbers, most_ranges):
            for value in [*WRONG, 0, 17]:
                if not isinstance(value, Curve):
                    raised(self, BadCurve, ("curve",), call, value, value, value)
                raised(self, BadMany, (value,), call, laced(), value, None)
                raised(self, BadMany, (value,), call, laced(), 16, value)
            raised(self, TooMany, ("cells", 16), call, Curve.read(WINDOWS_2001), 5, 4)
            raised(self, TooMany, ("cells", 16), call, laced(), 16, 2)
            raised(self, TooMany, ("windows", 2000), call, Curve.read(WINDOWS_2001), 4, 4)
            raised(self, TooMany, ("levels", 100), call, Curve.read(LEVELS_101), 2, 1)
            raised(self, TooMany, ("windows", 2000), call, turning(), 16, 1)
        self.assertEqual(sum(map(len, numbers(Curve.read(WINDOWS_2000), 4, 4).tables.values())), 2000)
        self.assertEqual(most_ranges(Curve.read(LEVELS_100), 2, 1), 2)


class Compared(unittest.TestCase):
    def told_twins(self, one, other, width, height):
        """The pairs of windows at all places of the first levels, each once, as they come."""
        found = []
        for level, x, y in places_in_order(width, height):
            box = Box(x, y, width, height)
            pair = (window_at(one(level), box), window_at(other(level), box))
            if pair not in found:
                found.append(pair)
        return found

    def test_against_all_places_of_the_first_levels(self):
        for one, other in itertools.product(CURVES[:8], repeat=2):
            for width, height in ((1, 1), (2, 1), (2, 2), (1, 3)):
                self.check(one, other, width, height, (-16, -1, 0, 1, 2, 16))

    def test_larger_sizes(self):
        for one, other in ((laced(), turning()), (turning(), laced()), (ring(), cup()), (cup(), ring())):
            for size in ((4, 4), (5, 3), (3, 3)):
                self.check(one, other, *size, (0, 1, 3, 5))

    def check(self, one, other, width, height, mores):
        told = told_ranges(one, width, height)
        left = told_ranges(other, width, height)
        for more in mores:
            try:
                found = never_more(one, other, width, height, more)
            except TooMany:
                return
            first = first_of([place for place in told if told[place] > left[place] + more])
            if isinstance(found, Breach):
                if first is None:
                    self.assertGreater(found.level, LAST)
                else:
                    self.assertEqual((found.level, found.y, found.x), first)
                box = Box(found.x, found.y, width, height)
                self.assertGreater(count(one(found.level), box), count(other(found.level), box) + more)
            else:
                self.assertIs(type(found), Always)
                self.assertIsNone(first)
                twins = found.tables[width, height]
                self.assertTrue(all(twin.one.ranges <= twin.other.ranges + more for twin in twins))

    def test_the_tables_of_twins(self):
        for one, other in itertools.product([laced(), cup(), turning(), *CURVES[-2:]], repeat=2):
            for width, height in ((1, 1), (2, 1), (2, 2)):
                found = never_more(one, other, width, height, 16).tables
                self.assertEqual(tuple(sorted(found)), family(width, height))
                for size, twins in found.items():
                    self.assertIs(type(twins), tuple)
                    self.assertEqual([type(twin) for twin in twins], [Twin] * len(twins))
                    pairs = [(twin.one, twin.other) for twin in twins]
                    # The first levels have the first twins, in this order; the others come behind them.
                    told = self.told_twins(one, other, *size)
                    self.assertEqual(pairs[:len(told)], told)
                    for pair in pairs:
                        self.assertEqual(pairs.count(pair), 1)

    def test_a_curve_and_itself(self):
        for curve in CURVES:
            for size in ((1, 1), (2, 2), (3, 1)):
                told = tables(curve, *size)
                twins = {part: tuple(Twin(window, window) for window in told[part]) for part in told}
                self.assertEqual(never_more(curve, curve, *size), Always(twins))
                self.assertEqual(never_more(curve, curve, *size, more=16), Always(twins))
                level = next(level for level in range(9) if 2 ** level >= max(size))
                self.assertEqual(never_more(curve, curve, *size, -1), Breach(level, 0, 0))

    def test_more_at_its_bounds(self):
        self.assertIs(type(never_more(laced(), turning(), 4, 4, 16)), Always)
        self.assertEqual(never_more(laced(), turning(), 4, 4, -16), Breach(2, 0, 0))
        self.assertEqual(never_more(more=0, height=1, width=2, other=turning(), one=laced()), Breach(2, 1, 2))
        self.assertIs(type(never_more(laced(), turning(), 1, 1, 0)), Always)
        self.assertEqual(never_more(laced(), turning(), 1, 1, -1), Breach(0, 0, 0))

    def test_the_errors_in_their_order(self):
        few, many = Curve.read(WINDOWS_2000), Curve.read(WINDOWS_2001)
        for value in WRONG:
            if not isinstance(value, Curve):
                raised(self, BadCurve, ("one",), never_more, value, value, value, value, value)
                raised(self, BadCurve, ("other",), never_more, laced(), value, value, value, value)
            raised(self, BadMany, (value,), never_more, laced(), cup(), value, None, value)
            raised(self, BadMany, (value,), never_more, laced(), cup(), 1, value, None)
            raised(self, TooMany, ("cells", 16), never_more, many, many, 5, 4, value)
            if value not in (-1, -2):
                raised(self, BadMany, (value,), never_more, many, many, 4, 4, value)
        for more in (-17, 17, True):
            raised(self, BadMany, (more,), never_more, laced(), cup(), 2, 2, more)
        for more in (-16, 0, 16):
            raised(self, TooMany, ("windows", 2000), never_more, many, many, 4, 4, more)
            raised(self, TooMany, ("windows", 2000), never_more, turning(), ring(), 4, 4, more)
            raised(self, TooMany, ("levels", 100), never_more, Curve.read(LEVELS_101), Curve.read(LEVELS_101), 2, 1, more)
            raised(self, TooMany, ("levels", 100), never_more, Curve.read(LEVELS_101), laced(), 2, 1, more)
        self.assertEqual(sum(map(len, never_more(few, few, 4, 4).tables.values())), 2000)
        level = Curve.read(LEVELS_100)
        self.assertIs(type(never_more(level, level, 2, 1)), Always)

    def test_it_is_quick(self):
        began = time.perf_counter()
        for curve in CURVES:
            for size in ((4, 4), (2, 8), (16, 1)):
                for call in (lambda: numbers(curve, *size), lambda: never_more(curve, ring(), *size, 16)):
                    try:
                        call()
                    except TooMany:
                        pass
        self.assertLess(time.perf_counter() - began, 60)


class Windows(unittest.TestCase):
    def test_what_a_breach_shows(self):
        self.assertEqual(judge(turning(), AtMost(2, 2, 3)), Breach(3, 3, 1))
        window = window_at(turning()(3), Box(3, 1, 2, 2))
        self.assertEqual((window.ranges, type(window)), (4, Window))


if __name__ == "__main__":
    unittest.main()
