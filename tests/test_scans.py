"""Reading stores: scans, sweeps, all rows, lots; and the places that make scans slow."""

import itertools
import random
import time
import unittest

from curveboxes.boxes import Box
from curveboxes.covers import cover
from curveboxes.curves import Curve
from curveboxes.errors import BadBox, BadCurve, BadMany, TooMany
from curveboxes.makers import cup, laced, plain, ring, turning
from curveboxes.ranges import count, next_key, spans_of
from curveboxes.squares import Square
from curveboxes.stores import Scan, Store, foes
from tests.model import Plain
from tests.reference import boxes_in, some_rows
from tests.values import HUGE, NEGATIVE, OWN, STRANGE, raised

WRONG = [*STRANGE, *OWN, *HUGE, *NEGATIVE]
CURVES = [laced(), cup(), turning(), ring(), plain(2, 0, 1, 3), *[Curve(*rows) for rows in some_rows(4, 4)]]
FAR = 2 ** 100


def filled(curve, level, places):
    """A store and a plain store with rows at these places."""
    store, told = Store(curve, level), Plain(curve, level)
    for at, place in enumerate(places):
        store[place] = at
        told.put(place, at)
    return store, told


def some_boxes(level, every):
    return [Box(*box) for box in list(boxes_in(2 ** level))[::every]]


def some_places(chance, level, many):
    return chance.sample(list(itertools.product(range(2 ** level), repeat=2)), min(many, 4 ** level))


class Scans(unittest.TestCase):
    def test_against_all_keys(self):
        chance = random.Random(1)
        for curve, level in itertools.product(CURVES, range(4)):
            for many in (0, 1, 3, 10, 64):
                store, told = filled(curve, level, some_places(chance, level, many))
                for box in some_boxes(level, 1 if level < 3 else 9):
                    found = store.scan(box)
                    self.assertIs(type(found), Scan)
                    self.assertEqual((found.rows, found.seeks, found.passed), told.scan(box))
                    self.assertLessEqual(found.seeks, len(told.ranges(box)))
                    self.assertEqual(found.seeks, store.scan(box=box).seeks)

    def test_all_ways_to_read_tell_the_same_rows(self):
        chance = random.Random(2)
        for curve, level in itertools.product(CURVES, range(4)):
            store, told = filled(curve, level, some_places(chance, level, 12))
            for box in some_boxes(level, 1 if level < 3 else 11):
                rows = tuple(row for row in told.rows if row[:2] in box)
                self.assertEqual(store.scan(box).rows, rows)
                whole = store.all_of(box=box)
                self.assertEqual((whole.rows, whole.seeks, whole.passed), (rows, 1, len(store)))
                for most in (1, 2, 3, 1000):
                    spans = cover(curve(level), box, most).spans
                    found = store.sweep(box, most)
                    self.assertIs(type(found), Scan)
                    read = [row for row in store if store.square_now[row[:2]] in spans]
                    self.assertEqual((found.rows, found.seeks, found.passed), (rows, len(spans), len(read)))
                self.assertEqual(store.sweep(most=1000, box=box).passed, len(rows))

    def test_an_empty_store(self):
        for curve, level in itertools.product(CURVES, (0, 1, 3, 100)):
            store = Store(curve, level)
            for box in (Box(0, 0), Box.square(level), Box(2 ** level - 1, 2 ** level - 1)):
                self.assertEqual(store.scan(box), Scan((), 1, 0))
                self.assertEqual(store.all_of(box), Scan((), 1, 0))
                self.assertEqual(store.sweep(box, 1), Scan((), 1, 0))

    def test_a_single_place_and_the_whole_square(self):
        for curve in CURVES:
            store, _ = filled(curve, 3, itertools.product(range(8), repeat=2))
            for level in (3, 4, 100):
                store.level_now = level
                # The next row is read, too, unless it is the last one.
                at = list(store).index((3, 4, store[3, 4]))
                found = store.scan(Box(3, 4))
                self.assertEqual((found.rows, found.seeks, found.passed), (((3, 4, 28),), 1, 1 + (at < 63)))
                self.assertEqual(store.scan(Box.square(level)), Scan(store.rows, 1, 64))
                self.assertEqual(store.sweep(Box(3, 4), 1), Scan(((3, 4, 28),), 1, 1))
                self.assertEqual(store.sweep(Box.square(level), 1000), Scan(store.rows, 1, 64))
        store, _ = filled(laced(), 0, [(0, 0)])
        self.assertEqual(store.scan(Box(0, 0)), Scan(((0, 0, 0),), 1, 1))

    def test_the_last_row_ends_it(self):
        store, _ = filled(laced(), 2, [(3, 3)])
        # Key 15 is read, and the box has no key above it.
        self.assertEqual(store.scan(Box(0, 0, 2, 2)), Scan((), 1, 1))
        self.assertEqual(store.scan(Box(0, 0, 4, 2)), Scan((), 1, 1))
        # In the box: it is told, and there is no next row.
        self.assertEqual(store.scan(Box(0, 3, 4, 1)), Scan(((3, 3, 0),), 1, 1))

    def test_far_levels(self):
        began = time.perf_counter()
        chance = random.Random(4)
        for curve in CURVES[:6]:
            store = Store(curve, 100)
            for at in range(500):
                store[chance.randrange(FAR), chance.randrange(FAR)] = at
            half = FAR // 2
            for box in (Box(half - 5, 1, 9, FAR - 2), Box(1, half - 5, FAR - 2, 9), Box(1, 1, FAR - 2, FAR - 2), Box(7, 9),
                        Box(FAR // 3, FAR // 5, FAR // 3, FAR // 2)):
                found = store.scan(box)
                rows = tuple(row for row in store if row[:2] in box)
                self.assertEqual(found.rows, rows)
                self.assertLessEqual(found.seeks, count(store.square_now, box))
                self.assertEqual((found.seeks, found.passed), self.told(store, box))
                self.assertEqual(store.all_of(box), Scan(rows, 1, 500))
        self.assertLess(time.perf_counter() - began, 60)

    def told(self, store, box):
        """The seeks and the rows that are read, by the keys of the rows alone."""
        square = store.square_now
        seeks = passed = 0
        key = next_key(square, box, 0)
        while key is not None:
            seeks += 1
            behind = [row for row in store if square[row[:2]] >= key]
            key = None
            for row in behind:
                passed += 1
                if row[:2] not in box:
                    key = next_key(square, box, square[row[:2]])
                    break
        return seeks, passed

    def test_rows_at_all_foes(self):
        began = time.perf_counter()
        for curve in (laced(), turning(), ring()):
            square = curve(100)
            box = Box(FAR // 2 - 1, FAR // 2 - 200, 1, 450)
            places = foes(square, box)
            self.assertGreater(len(places), 100)
            store, _ = filled(curve, 100, places)
            found = store.scan(box)
            self.assertEqual((found.rows, found.seeks), ((), count(square, box)))
        self.assertLess(time.perf_counter() - began, 60)

    def test_what_is_no_box(self):
        store, _ = filled(turning(), 2, [(1, 1), (3, 0)])
        for call in (store.scan, store.all_of, lambda box: store.sweep(box, 1), lambda box: store.sweep(box, None)):
            for value in [*WRONG, (1, 1, 1, 1), "1 1 1 1"]:
                if not isinstance(value, Box):
                    raised(self, BadBox, ("box",), call, value)
            for box in (Box(4, 0), Box(0, 4), Box(3, 3, 2, 1), Box(0, 0, 4, 5), Box.square(3), Box(FAR - 1, 0)):
                raised(self, BadBox, ("outside",), call, box)
        for value in [*WRONG, 0, 1001]:
            raised(self, BadMany, (value,), store.sweep, Box(1, 1, 2, 2), value)
        self.assertEqual(store.sweep(Box(1, 1, 2, 2), 1000).seeks, 3)
        self.assertEqual((len(store), store.deeds), (2, 2))

    def test_a_thousand_spans_and_one_more(self):
        store, _ = filled(laced(), 100, [(7, FAR // 2 + 3), (6, 6)])
        self.assertEqual(store.sweep(Box(7, FAR // 2, 1, 1000), 1000), Scan(((7, FAR // 2 + 3, 0),), 1000, 1))
        self.assertEqual(store.sweep(Box(7, FAR // 2, 1, 1000), 1).seeks, 1)
        for most in (1, 1000):
            raised(self, TooMany, ("spans", 1000), store.sweep, Box(7, FAR // 2, 1, 1001), most)
        raised(self, BadMany, (0,), store.sweep, Box(7, FAR // 2, 1, 1001), 0)
        self.assertEqual(store.scan(Box(7, FAR // 2, 1, 1001)).rows, ((7, FAR // 2 + 3, 0),))


class Lots(unittest.TestCase):
    def test_so_many_at_a_time(self):
        chance = random.Random(6)
        for curve, many in itertools.product(CURVES[:5], (1, 2, 7, 30)):
            store, _ = filled(curve, 3, some_places(chance, 3, many))
            for number in (1, 2, 3, many, many + 1, 500):
                found = list(store.lots(number))
                self.assertEqual(tuple(row for _, rows in found for row in rows), store.rows)
                self.assertEqual([len(rows) for _, rows in found[:-1]], [number] * (len(found) - 1))
                self.assertEqual(len(found), (many + number - 1) // number)
                for lot in found:
                    self.assertEqual([type(lot), type(lot[0]), type(lot[1])], [tuple, Box, tuple])
                    box, rows = lot
                    xs, ys = [row[0] for row in rows], [row[1] for row in rows]
                    told = (min(xs), min(ys), max(xs) - min(xs) + 1, max(ys) - min(ys) + 1)
                    self.assertEqual((box.x, box.y, box.width, box.height), told)

    def test_without_rows(self):
        for level in (0, 100):
            self.assertEqual(list(Store(laced(), level).lots(count=1)), [])
            self.assertEqual(list(Store(laced(), level).lots(500)), [])

    def test_far_places(self):
        store, _ = filled(ring(), 100, [(0, FAR - 1), (FAR - 1, 0)])
        self.assertEqual(str(next(store.lots(2))[0]), f"0 0 {FAR} {FAR}")

    def test_what_is_no_number(self):
        for store in (Store(laced(), 2), filled(laced(), 2, [(1, 1)])[0]):
            for value in [*WRONG, 0, 501, -1]:
                raised(self, BadMany, (value,), lambda: next(store.lots(value)))

    def test_the_rows_as_they_are_when_the_first_is_asked_for(self):
        store, _ = filled(laced(), 2, [(0, 0), (1, 0)])
        lots = store.lots(1)
        store[0, 1] = 7
        store.exchange(~laced(), 2)
        told = store.rows
        self.assertEqual(told, ((0, 0, 0), (0, 1, 7), (1, 0, 1)))
        found = [next(lots)[1]]
        store[3, 3] = 8
        store.take(1, 0)
        store.exchange(laced(), 3)
        found.extend(rows for _, rows in lots)
        self.assertEqual(found, [(row,) for row in told])
        with store.trial() as same:
            lots = same.lots(5)
            same.take(0, 0)
        self.assertEqual([rows for _, rows in lots], [store.rows])


class Foes(unittest.TestCase):
    def test_behind_each_range_but_the_last_one(self):
        for curve, level in itertools.product(CURVES, range(4)):
            square = curve(level)
            told = list(square.walk())
            for box in some_boxes(level, 1 if level < 3 else 5):
                found = foes(box=box, square=square)
                self.assertIs(type(found), tuple)
                self.assertEqual(found, tuple(told[high + 1] for _, high in list(spans_of(square, box))[:-1]))
                self.assertFalse([place for place in found if place in box])
                store, _ = filled(curve, level, found)
                scan = store.scan(box)
                many = count(square, box)
                self.assertEqual((scan.rows, scan.seeks, scan.passed), ((), many, many - 1))

    def test_no_store_makes_more_seeks(self):
        chance = random.Random(9)
        for curve in CURVES:
            for _ in range(60):
                level = chance.randrange(1, 4)
                store, told = filled(curve, level, some_places(chance, level, chance.randrange(40)))
                box = chance.choice(some_boxes(level, 1))
                self.assertLessEqual(store.scan(box).seeks, count(curve(level), box))
                for place in foes(curve(level), box):
                    store[place] = 1
                self.assertEqual(store.scan(box).seeks, count(curve(level), box))

    def test_edges(self):
        for curve in CURVES:
            for level in (0, 100):
                self.assertEqual(foes(curve(level), Box.square(level)), ())
                self.assertEqual(foes(curve(level), Box(0, 0)), ())
        self.assertEqual(foes(turning()(2), Box(1, 1, 2, 2)), ((0, 1), (2, 3)))
        column = Box(7, FAR // 2, 1, 1000)
        self.assertEqual(len(foes(laced()(100), column)), 999)
        raised(self, TooMany, ("spans", 1000), foes, laced()(100), Box(7, FAR // 2, 1, 1001))

    def test_the_errors_in_their_order(self):
        for value in WRONG:
            if not isinstance(value, Square):
                raised(self, BadCurve, ("square",), foes, value, value)
                raised(self, BadCurve, ("square",), foes, value, Box(0, 0))
            if not isinstance(value, Box):
                raised(self, BadBox, ("box",), foes, laced()(2), value)
        raised(self, BadBox, ("outside",), foes, laced()(2), Box(7, 0, 1, 2000))
        raised(self, BadBox, ("outside",), foes, laced()(0), Box(0, 0, 2, 1))


if __name__ == "__main__":
    unittest.main()
