"""Stores: rows put, read and taken, exchanged, taken back, tried."""

import itertools
import random
import time
import unittest

from curveboxes.curves import Curve
from curveboxes.errors import (
    BadCurve, BadLevel, BadPlace, BadRow, CurveError, NoDeed, NoRow, Outside, TooMany,
)
from curveboxes.makers import cup, laced, ring, turning
from curveboxes.squares import Square
from curveboxes.stores import Scan, Store
from tests.model import Plain, check_same
from tests.reference import some_rows
from tests.values import HUGE, NEGATIVE, OWN, STRANGE, raised

WRONG = [*STRANGE, *OWN, *HUGE, *NEGATIVE]
CURVES = [laced(), cup(), turning(), ring(), *[Curve(*rows) for rows in some_rows(5, 4)]]
FAR = 2 ** 100
# No places of the level 2.
NO_PLACES = [
    *WRONG, (4, 0), (0, 4), (-1, 0), (0, -1), (FAR, 0), (1, 1, 1), (1,), [1, 1], (True, 1), (1, False), (1, None), "11", 1, 0,
    ((1, 1), (1, 1)), slice(0, 1), (slice(0, 1), 0),
]


def put(store, at, value):
    store[at] = value


def assign(store, name, value):
    setattr(store, name, value)


def full_store(curve, level=5):
    """A store with 500 rows at the first columns."""
    store = Store(curve, level)
    for at in range(500):
        store[at // 2 ** level, at % 2 ** level] = at
    return store


class Made(unittest.TestCase):
    def test_empty_stores(self):
        for curve, level in itertools.product(CURVES, (0, 1, 2, 50, 100)):
            for store in (Store(curve, level), Store(level=level, curve=curve)):
                self.assertEqual((store.rows, list(store), len(store), store.deeds), ((), [], 0, 0))
                self.assertIs(bool(store), False)
                self.assertIn("rows", vars(store))
                self.assertEqual((store.curve_now, store.level_now), (curve, level))
                self.assertEqual(store.square_now, Square(curve, level))
                self.assertIs(type(store.square_now), Square)
                self.assertNotIn((0, 0), store)

    def test_the_errors_in_their_order(self):
        for value in WRONG:
            if not isinstance(value, Curve):
                raised(self, BadCurve, ("curve",), Store, value, value)
                raised(self, BadCurve, ("curve",), Store, value, 3)
            raised(self, BadLevel, (value,), Store, laced(), value)
        raised(self, BadLevel, (101,), Store, laced(), 101)
        raised(self, BadCurve, ("curve",), Store, laced()(2), 101)

    def test_no_names_beyond_these(self):
        with self.assertRaises(TypeError):
            Store(laced())
        with self.assertRaises(TypeError):
            Store(laced(), 1, 1)


class Rows(unittest.TestCase):
    def test_a_row(self):
        store = Store(turning(), 2)
        self.assertIsNone(put(store, (1, 2), 9))
        self.assertEqual((store[1, 2], store[(1, 2)], store.rows, len(store), store.deeds), (9, 9, ((1, 2, 9),), 1, 1))
        self.assertIs((1, 2) in store, True)
        self.assertIs((2, 1) in store, False)
        self.assertIs(bool(store), True)
        store[1, 2] = 0
        self.assertEqual((store[1, 2], store.rows, store.deeds), (0, ((1, 2, 0),), 2))
        self.assertEqual((store.take(1, 2), store.rows, store.deeds), (0, (), 3))
        self.assertNotIn((1, 2), store)
        raised(self, NoRow, ((1, 2),), store.take, 1, 2)
        self.assertEqual(store.take.__self__.deeds, 3)

    def test_take_by_name(self):
        store = Store(cup(), 3)
        store[6, 7] = 4
        self.assertEqual(store.take(y=7, x=6), 4)

    def test_rows_stand_by_their_keys(self):
        for curve, level in itertools.product(CURVES, range(4)):
            store = Store(curve, level)
            places = list(itertools.product(range(2 ** level), repeat=2))
            random.Random(level).shuffle(places)
            for at, place in enumerate(places):
                store[place] = at
                keys = [store.square_now[row[:2]] for row in store]
                self.assertEqual(keys, sorted(keys))
            self.assertEqual([row[:2] for row in store.rows], list(store.square_now.walk()))
            self.assertEqual([row[2] for row in store.rows], [places.index(row[:2]) for row in store.rows])
            self.assertEqual([type(part) for row in store.rows for part in row], [int] * 3 * len(places))

    def test_rows_that_were_told_stay(self):
        store = Store(laced(), 2)
        store[0, 0] = 1
        rows, inner = store.rows, iter(store)
        store[1, 1] = 2
        self.assertEqual((rows, list(inner)), (((0, 0, 1),), [(0, 0, 1)]))
        self.assertEqual(store.rows, ((0, 0, 1), (1, 1, 2)))
        self.assertEqual([row for row in store for _ in (store.take(*row[:2]),)], [(0, 0, 1), (1, 1, 2)])

    def test_level_0_and_level_100(self):
        store = Store(ring(), 0)
        store[0, 0] = 10 ** 9
        self.assertEqual((store.rows, store[0, 0]), (((0, 0, 10 ** 9),), 10 ** 9))
        raised(self, BadPlace, ((0, 1),), put, store, (0, 1), 1)
        for curve in CURVES:
            store = Store(curve, 100)
            store[FAR - 1, FAR - 1] = 1
            store[0, FAR - 1] = 2
            store[0, 0] = 3
            keys = [store.square_now[row[:2]] for row in store]
            self.assertEqual(keys, sorted(keys))
            self.assertEqual((store[FAR - 1, FAR - 1], (FAR - 1, 0) in store, len(store)), (1, False, 3))
            raised(self, BadPlace, ((FAR, 0),), put, store, (FAR, 0), 1)

    def test_what_is_no_place(self):
        store = Store(turning(), 2)
        store[1, 1] = 1
        for value in NO_PLACES:
            raised(self, BadPlace, (value,), put, store, value, value)
            raised(self, BadPlace, (value,), put, store, value, 1)
            raised(self, BadPlace, (value,), lambda: store[value])
            self.assertIs(value in store, False)
        for x, y in itertools.product([*WRONG, 4, True, None], repeat=2):
            raised(self, BadPlace, ((x, y),), store.take, x, y)
        for value in [*WRONG, 4, -1, True]:
            raised(self, BadPlace, ((value, 1),), store.take, value, 1)
            raised(self, BadPlace, ((1, value),), store.take, 1, value)
        self.assertEqual((store.rows, store.deeds), (((1, 1, 1),), 1))

    def test_what_is_no_value(self):
        store = Store(turning(), 2)
        for value in [*WRONG, 10 ** 9 + 1, -1, True, "1", (1,), {}]:
            raised(self, BadRow, (value,), put, store, (1, 1), value)
        self.assertEqual((store.rows, store.deeds), ((), 0))
        for value in (0, 1, 10 ** 9):
            store[1, 1] = value
            self.assertEqual(store[1, 1], value)
            for wrong in (10 ** 9 + 1, None):
                raised(self, BadRow, (wrong,), put, store, (1, 1), wrong)
            self.assertEqual(store[1, 1], value)

    def test_places_without_rows(self):
        store = Store(laced(), 3)
        for place in itertools.product(range(8), repeat=2):
            raised(self, NoRow, (place,), lambda: store[place])
            raised(self, NoRow, (place,), store.take, *place)
        store[3, 3] = 1
        raised(self, NoRow, ((2, 3),), lambda: store[2, 3])
        self.assertEqual(store.deeds, 1)

    def test_five_hundred_rows_and_one_more(self):
        for curve in (laced(), turning()):
            store = full_store(curve)
            rows = store.rows
            self.assertEqual((len(store), store.deeds), (500, 500))
            self.assertNotIn((20, 20), store)
            for place in ((20, 20), (31, 31)):
                raised(self, TooMany, ("rows", 500), put, store, place, 0)
                raised(self, BadRow, (None,), put, store, place, None)
                raised(self, BadPlace, ((32, 0),), put, store, (32, 0), None)
            self.assertEqual((store.rows, store.deeds), (rows, 500))
            store[0, 0] = 77
            self.assertEqual((store[0, 0], len(store), store.deeds), (77, 500, 501))
            self.assertEqual(store.take(0, 1), 1)
            store[31, 31] = 5
            raised(self, TooMany, ("rows", 500), put, store, (0, 1), 0)
            self.assertEqual((len(store), store[31, 31]), (500, 5))
            self.assertEqual([store.undo() for _ in range(3)], ["put", "take", "put"])
            self.assertEqual(store.rows, rows)


class Exchanged(unittest.TestCase):
    def test_the_rows_stay_at_their_places(self):
        chance = random.Random(5)
        for one, other in itertools.product(CURVES, repeat=2):
            store = Store(one, 3)
            for at in range(20):
                store[chance.randrange(8), chance.randrange(8)] = at
            told = {row[:2]: row[2] for row in store}
            for level in (3, 4, 100):
                self.assertIsNone(store.exchange(other, level))
                self.assertEqual({row[:2]: row[2] for row in store}, told)
                keys = [other(level)[row[:2]] for row in store]
                self.assertEqual(keys, sorted(keys))
                self.assertEqual((store.curve_now, store.level_now, store.square_now), (other, level, other(level)))
                self.assertTrue(all(store[place] == value for place, value in told.items()))
            store.exchange(level=3, curve=one)
            self.assertEqual(store.deeds, 24)

    def test_by_the_properties(self):
        store = Store(laced(), 2)
        store[1, 0] = 1
        store[0, 1] = 2
        store.curve_now = ~laced()
        self.assertEqual((store.rows, store.deeds, store.level_now), (((0, 1, 2), (1, 0, 1)), 3, 2))
        store.level_now = 1
        self.assertEqual((store.rows, store.deeds, store.level_now, store.curve_now), (((0, 1, 2), (1, 0, 1)), 4, 1, ~laced()))
        store.level_now = 1
        store.curve_now = ~laced()
        store.exchange(~laced(), 1)
        self.assertEqual((store.deeds, store.undo(), store.deeds), (7, "exchange", 6))
        with self.assertRaises(AttributeError):
            store.square_now = laced()(2)
        with self.assertRaises(AttributeError):
            store.deeds = 0

    def test_a_level_without_all_places(self):
        store = Store(turning(), 3)
        store[5, 0] = 1
        store[0, 5] = 2
        store[1, 1] = 3
        first = next(row[:2] for row in store if row[:2] != (1, 1))
        calls = (
            lambda: store.exchange(turning(), 2), lambda: assign(store, "level_now", 2),
            lambda: store.exchange(laced(), 2),
        )
        rows = store.rows
        for call in calls:
            raised(self, Outside, (first,), call)
            with self.assertRaises(Outside) as caught:
                call()
            self.assertIs(type(caught.exception.__cause__), BadPlace)
            self.assertEqual(caught.exception.__cause__.value, first)
            self.assertEqual((store.rows, store.deeds, store.level_now, store.curve_now), (rows, 3, 3, turning()))
        store.exchange(-turning(), 3)
        last = [row[:2] for row in store if row[:2] != (1, 1)][0]
        self.assertNotEqual(first, last)
        self.assertEqual(store.undo(), "exchange")
        # At the level 1 the first row by the keys stays inside, at the level 0 it does not.
        self.assertEqual(store.rows[0][:2], (1, 1))
        raised(self, Outside, (first,), store.exchange, turning(), 1)
        raised(self, Outside, ((1, 1),), store.exchange, turning(), 0)
        store.exchange(-turning(), 3)
        # By the key that it has, not by the one that it would have.
        raised(self, Outside, (last,), store.exchange, turning(), 2)
        raised(self, Outside, ((1, 1),), Store.exchange, self.with_rows((1, 1), (0, 0)), turning(), 0)

    def with_rows(self, *places):
        store = Store(laced(), 2)
        for place in places:
            store[place] = 1
        return store

    def test_the_errors_in_their_order(self):
        store = self.with_rows((3, 3))
        for value in WRONG:
            if not isinstance(value, Curve):
                raised(self, BadCurve, ("curve",), store.exchange, value, value)
                raised(self, BadCurve, ("curve",), store.exchange, value, 1)
                raised(self, BadCurve, ("curve",), assign, store, "curve_now", value)
            raised(self, BadLevel, (value,), store.exchange, laced(), value)
            raised(self, BadLevel, (value,), assign, store, "level_now", value)
        raised(self, BadLevel, (101,), assign, store, "level_now", 101)
        raised(self, Outside, ((3, 3),), assign, store, "level_now", 1)
        self.assertEqual((store.rows, store.deeds, store.square_now), (((3, 3, 1),), 1, laced()(2)))

    def test_an_empty_and_a_full_store(self):
        store = Store(laced(), 100)
        store.exchange(ring(), 0)
        self.assertEqual((store.square_now, store.rows, store.deeds), (ring()(0), (), 1))
        store = full_store(laced())
        told = set(store.rows)
        store.exchange(ring(), 100)
        self.assertEqual(set(store.rows), told)
        self.assertEqual([row[:2] for row in store], sorted([row[:2] for row in store], key=ring()(100).__getitem__))


class TakenBack(unittest.TestCase):
    def test_no_deed(self):
        store = Store(laced(), 1)
        raised(self, NoDeed, (), store.undo)
        store[0, 0] = 1
        self.assertEqual(store.undo(), "put")
        raised(self, NoDeed, (), store.undo)
        self.assertEqual((store.rows, store.deeds), ((), 0))

    def test_each_word(self):
        store = Store(laced(), 1)
        store[0, 1] = 1
        store[0, 1] = 1
        store.take(0, 1)
        store.exchange(laced(), 1)
        store.curve_now = cup()
        store.level_now = 7
        words = []
        seen = []
        while store.deeds:
            seen.append((store.rows, store.curve_now, store.level_now))
            words.append(store.undo())
        self.assertEqual(words, ["exchange", "exchange", "exchange", "take", "put", "put"])
        self.assertEqual(seen[3:], [((), laced(), 1), (((0, 1, 1),), laced(), 1), (((0, 1, 1),), laced(), 1)])
        self.assertEqual(store, Store(laced(), 1))

    def test_scripts_against_a_plain_store(self):
        for seed in range(60):
            chance = random.Random(seed)
            curve, level = chance.choice(CURVES), chance.randrange(1, 4)
            store, plain = Store(curve, level), Plain(curve, level)
            for _ in range(60):
                self.do(chance, store, plain)
                check_same(self, store, plain)
            while plain.past:
                self.assertEqual(store.undo(), plain.undo())
                check_same(self, store, plain)
            raised(self, NoDeed, (), store.undo)

    def do(self, chance, store, plain):
        x, y = chance.randrange(2 ** plain.level), chance.randrange(2 ** plain.level)
        what = chance.randrange(8)
        if what < 3:
            value = chance.choice((0, 1, 10 ** 9, chance.randrange(10 ** 9)))
            store[x, y] = value
            plain.put((x, y), value)
        elif what < 5:
            if (x, y) in plain.held:
                self.assertEqual(store.take(x, y), plain.take((x, y)))
            else:
                raised(self, NoRow, ((x, y),), store.take, x, y)
        elif what < 6:
            if plain.past:
                self.assertEqual(store.undo(), plain.undo())
        else:
            curve, level = chance.choice(CURVES), chance.randrange(0, 4)
            out = plain.first_outside(level)
            if out is None:
                store.exchange(curve, level)
                plain.exchange(curve, level)
            else:
                raised(self, Outside, (out,), store.exchange, curve, level)

    def test_many_deeds(self):
        began = time.perf_counter()
        store = Store(turning(), 100)
        for at in range(20000):
            store[at % 400, 0] = at
        self.assertEqual(store.deeds, 20000)
        for at in range(19999, -1, -1):
            self.assertEqual(store.undo(), "put")
        self.assertEqual(store, Store(turning(), 100))
        self.assertLess(time.perf_counter() - began, 60)


class Failure(Exception):
    """An error of a test's own."""


class Tried(unittest.TestCase):
    def setUp(self):
        self.store = Store(turning(), 2)
        self.store[1, 1] = 1
        self.store[2, 2] = 2
        self.told = self.seen()

    def seen(self):
        store = self.store
        return store.rows, store.curve_now, store.level_now, store.deeds, len(store), list(store)

    def change(self, store):
        store.take(1, 1)
        store[3, 3] = 3
        store.exchange(laced(), 100)
        store.undo()
        store[0, 0] = 4

    def test_a_block(self):
        with self.store.trial() as same:
            self.assertIs(same, self.store)
            self.assertEqual(self.seen(), self.told)
            self.change(same)
            self.assertEqual((len(same), same.deeds), (3, 5))
        self.assertEqual(self.seen(), self.told)
        self.assertEqual([self.store.undo(), self.store.undo()], ["put", "put"])

    def test_a_block_that_takes_back_what_was_ahead_of_it(self):
        with self.store.trial() as same:
            same.undo()
            same.undo()
            raised(self, NoDeed, (), same.undo)
            same[0, 0] = 7
            self.assertEqual((same.rows, same.deeds), (((0, 0, 7),), 1))
        self.assertEqual(self.seen(), self.told)
        self.assertEqual((self.store.undo(), self.store.rows), ("put", ((1, 1, 1),)))

    def test_errors_go_on(self):
        for error in (Failure("x"), KeyError(1), BadRow(3), StopIteration(), NoDeed(), KeyboardInterrupt()):
            with self.assertRaises(type(error)) as caught:
                with self.store.trial() as same:
                    self.change(same)
                    raise error
            self.assertIs(caught.exception, error)
            self.assertEqual(self.seen(), self.told)
            with self.assertRaises(type(error)) as caught:
                self.store.tried(lambda same: self.fail_with(same, error))
            self.assertIs(caught.exception, error)
            self.assertEqual(self.seen(), self.told)

    def fail_with(self, store, error):
        self.change(store)
        raise error

    def test_an_error_of_the_store_itself(self):
        with self.assertRaises(Outside):
            with self.store.trial() as same:
                same[3, 0] = 5
                same.level_now = 1
        self.assertEqual(self.seen(), self.told)

    def test_nested_blocks(self):
        with self.store.trial() as one:
            one[0, 3] = 5
            inner = self.seen()
            with one.trial() as other:
                self.assertIs(other, one)
                other.take(0, 3)
                other.exchange(ring(), 5)
                with self.assertRaises(Failure):
                    with other.trial() as third:
                        third[31, 31] = 6
                        raise Failure()
                self.assertEqual((other.level_now, len(other)), (5, 2))
            self.assertEqual(self.seen(), inner)
            self.assertEqual(one.tried(lambda same: (same.undo(), same.undo(), len(same))), ("put", "put", 1))
            self.assertEqual(self.seen(), inner)
        self.assertEqual(self.seen(), self.told)

    def test_it_begins_with_the_block(self):
        trial = self.store.trial()
        self.store[0, 0] = 9
        told = self.seen()
        with trial as same:
            same.take(0, 0)
        self.assertEqual(self.seen(), told)
        self.assertEqual(self.store[0, 0], 9)

    def test_tried(self):
        def work(same):
            self.assertIs(same, self.store)
            self.change(same)
            return same.rows

        rows = self.store.tried(work)
        self.assertEqual(len(rows), 3)
        self.assertEqual(self.seen(), self.told)
        self.assertIsNone(self.store.tried(work=self.change))
        self.assertEqual(self.seen(), self.told)
        self.assertIs(self.store.tried(lambda same: same), self.store)
        for value in WRONG:
            self.assertIs(self.store.tried(lambda same: value), value)
        self.assertEqual(self.store.tried(len), 2)

    def test_scripts_within_blocks(self):
        for seed in range(20):
            chance = random.Random(seed)
            store = Store(chance.choice(CURVES), 2)
            store[1, 1] = 1
            self.store = store
            self.nest(chance, 3)

    def nest(self, chance, deep):
        told = self.seen()
        fails = chance.random() < 0.5
        try:
            with self.store.trial() as same:
                for _ in range(chance.randrange(5)):
                    same[chance.randrange(2 ** same.level_now), 0] = chance.randrange(9)
                    if deep and chance.random() < 0.6:
                        self.nest(chance, deep - 1)
                    if chance.random() < 0.3:
                        same.exchange(chance.choice(CURVES), same.level_now + chance.randrange(2))
                    if chance.random() < 0.4 and same.deeds:
                        same.undo()
                if fails:
                    raise Failure()
        except Failure:
            self.assertTrue(fails)
        self.assertEqual(self.seen(), told)


class Twins(unittest.TestCase):
    def test_it_goes_its_own_way(self):
        store = Store(turning(), 2)
        store[1, 1] = 1
        store[1, 2] = 2
        other = store.twin()
        self.assertIs(type(other), Store)
        self.assertIsNot(other, store)
        self.assertEqual(other, store)
        self.assertEqual((other.rows, other.deeds, other.square_now), (store.rows, 2, store.square_now))
        other[0, 0] = 3
        other.exchange(laced(), 5)
        self.assertEqual((len(store), store.level_now, store.deeds), (2, 2, 2))
        store.take(1, 1)
        self.assertEqual((len(other), other[1, 1], other.deeds), (3, 1, 4))
        self.assertEqual([other.undo() for _ in range(4)], ["exchange", "put", "put", "put"])
        self.assertEqual((store.rows, [store.undo() for _ in range(3)]), (((1, 2, 2),), ["take", "put", "put"]))
        raised(self, NoDeed, (), other.undo)

    def test_a_twin_of_a_store_in_a_block(self):
        store = Store(laced(), 2)
        with store.trial() as same:
            same[1, 1] = 1
            other = same.twin()
        self.assertEqual((len(store), len(other), other.deeds), (0, 1, 1))

    def test_equality(self):
        one, other = Store(turning(), 2), Store(turning(), 2)
        self.assertIs(one == other, True)
        one[1, 1] = 1
        self.assertIs(one == other, False)
        self.assertIs(one != other, True)
        other[1, 1] = 2
        self.assertIs(one == other, False)
        other[1, 1] = 1
        # What can be taken back does not count.
        self.assertEqual((one.deeds, other.deeds), (1, 2))
        self.assertIs(one == other, True)
        other.level_now = 3
        self.assertIs(one == other, False)
        other.exchange(laced(), 2)
        self.assertIs(one == other, False)
        other.exchange(Curve(*turning().rows), 2)
        self.assertIs(one == other, True)
        for value in [*WRONG, one.rows, list(one), one.square_now, Scan(one.rows, 1, 1)]:
            self.assertIs(one == value, False)
            self.assertIs(one != value, True)
            self.assertIs(value == one, False)

    def test_rows_in_another_order(self):
        one, other = Store(ring(), 3), Store(ring(), 3)
        places = list(itertools.product(range(8), repeat=2))
        for at, place in enumerate(places):
            one[place] = at
        for at, place in reversed(list(enumerate(places))):
            other[place] = at
        self.assertEqual(one, other)
        self.assertEqual(one.rows, other.rows)


class Refused(unittest.TestCase):
    def test_what_is_refused_changes_nothing(self):
        store = full_store(turning(), 5)
        store.take(3, 3)
        store[31, 31] = 4
        told = store.twin()
        calls = [
            lambda: put(store, (20, 20), 1), lambda: put(store, (0, 0), -1), lambda: put(store, None, 1),
            lambda: store.take(20, 20), lambda: store.take(None, 1), lambda: store[20, 20], lambda: store[0],
            lambda: store.exchange(None, 3), lambda: store.exchange(laced(), -1), lambda: store.exchange(laced(), 4),
            lambda: assign(store, "curve_now", None), lambda: assign(store, "level_now", 3), lambda: store.scan(None),
            lambda: store.sweep(store.square_now.box(), 0), lambda: list(store.lots(0)),
        ]
        for call in calls:
            self.assertRaises(CurveError, call)
            self.assertEqual((store, store.rows, store.deeds), (told, told.rows, 502))


if __name__ == "__main__":
    unittest.main()
