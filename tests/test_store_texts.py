"""The texts of stores, written and read."""

import itertools
import random
import time
import unittest

from curveboxes.curves import Curve
from curveboxes.errors import BadCurve, BadStore, BadText, NoDeed
from curveboxes.makers import cup, laced, ring, turning
from curveboxes.reader import read_store
from curveboxes.stores import Store
from curveboxes.texts import store_text
from tests.reference import some_rows
from tests.values import HUGE, NEGATIVE, OWN, STRANGE, raised

WRONG = [*STRANGE, *OWN, *HUGE, *NEGATIVE]
CURVES = [laced(), cup(), turning(), ring(), *[Curve(*rows) for rows in some_rows(5, 4)]]
FAR = 2 ** 100
LACED = "curve 0>0 1>0 2>0 3>0"
# Keys 0, 1, 3, 12, 15 of the level 2.
LINES = ["level 2", LACED, "row 0 0 5", "row 1 0 0", "row 1 1 1000000000", "row 2 2 7", "row 3 3 7"]


def text_of(*lines):
    return "\n".join(lines)


def some_store(chance, curve, level, many):
    store = Store(curve, level)
    for _ in range(many):
        store[chance.randrange(2 ** level), chance.randrange(2 ** level)] = chance.choice((0, 10 ** 9, chance.randrange(10 ** 9)))
    return store


class Written(unittest.TestCase):
    def test_the_lines(self):
        store = Store(turning(), 2)
        self.assertEqual(store_text(store), f"level 2\ncurve {turning()}")
        store[0, 1] = 5
        store[3, 0] = 10 ** 9
        store[2, 3] = 0
        told = text_of("level 2", f"curve {turning()}", "row 0 1 5", "row 2 3 0", "row 3 0 1000000000")
        self.assertEqual(store_text(store=store), told)
        self.assertEqual(store.deeds, 3)
        store = Store(laced(), 100)
        store[FAR - 1, 0] = 1
        self.assertEqual(store_text(store), f"level 100\n{LACED}\nrow {FAR - 1} 0 1")

    def test_what_is_no_store(self):
        for value in [*WRONG, Store, store_text(Store(laced(), 1))]:
            raised(self, BadStore, ("store",), store_text, value)


class Read(unittest.TestCase):
    def test_there_and_back(self):
        chance = random.Random(1)
        for curve, level in itertools.product(CURVES, (0, 1, 3, 100)):
            for many in (0, 1, 30):
                store = some_store(chance, curve, level, many)
                text = store_text(store)
                found = read_store(text=text)
                self.assertIs(type(found), Store)
                self.assertEqual((found, found.rows, found.square_now), (store, store.rows, store.square_now))
                self.assertEqual((found.deeds, len(found), store_text(found)), (0, len(store), text))
                raised(self, NoDeed, (), found.undo)

    def test_it_lives_as_the_store_does(self):
        chance = random.Random(2)
        for curve in CURVES:
            store = some_store(chance, curve, 3, 20)
            store.exchange(chance.choice(CURVES), 4)
            found = read_store(store_text(store))
            box = store.square_now.box() >> 1
            for _ in range(20):
                place = chance.randrange(16), chance.randrange(16)
                for one in (store, found):
                    one[place] = 3
                row = chance.choice(store.rows)
                self.assertEqual(store.take(*row[:2]), found.take(*row[:2]))
                self.assertEqual(store.scan(box), found.scan(box))
                self.assertEqual((store.rows, store_text(store)), (found.rows, store_text(found)))
            for one in (store, found):
                one.exchange(turning(), 5)
            self.assertEqual(found, store)
            self.assertEqual([found.undo() for _ in range(41)], [store.undo() for _ in range(41)])
            self.assertEqual(found, store)
            raised(self, NoDeed, (), found.undo)
            self.assertGreater(store.deeds, 0)

    def test_five_hundred_rows_and_one_more(self):
        store = Store(turning(), 5)
        for row in range(500):
            store[row // 32, row % 32] = row
        text = store_text(store)
        found = read_store(text)
        self.assertEqual((len(found), found.deeds, found), (500, 0, store))
        lines = text.split("\n")
        places = [place for place in turning()(5).walk() if place not in store]
        key = turning()(5)[store.rows[-1][:2]]
        after = [place for place in places if turning()(5)[place] > key]
        x, y = after[0]
        raised(self, BadText, (502, 0), read_store, text_of(*lines, f"row {x} {y} 1"))
        raised(self, BadText, (502, 0), read_store, text_of(*lines, f"row {x} {y} 1", f"row {x} {y} 1"))
        # A place that cannot stand is listed first; words that cannot stand come ahead of all rows.
        raised(self, BadText, (502, 1), read_store, text_of(*lines, "row 32 0 1"))
        raised(self, BadText, (502, 1), read_store, text_of(*lines, lines[-1]))
        raised(self, BadText, (503, 3), read_store, text_of(*lines, f"row {x} {y} 1", f"row {x} {y} x"))
        raised(self, BadText, (4, 1), read_store, text_of(*lines[:4], lines[3], *lines[4:]))

    def test_what_is_no_string(self):
        for value in WRONG:
            if not isinstance(value, str):
                raised(self, BadText, (0, 0), read_store, value)
        raised(self, BadText, (0, 0), read_store, Store(laced(), 1))
        raised(self, BadText, (0, 0), read_store, LINES)

    def test_lines_left_out(self):
        text = text_of(*LINES)
        self.assertEqual(len(read_store(text)), 5)
        raised(self, BadText, (0, 0), read_store, "")
        raised(self, BadText, (1, 0), read_store, "level 2")
        raised(self, BadText, (0, 0), read_store, LACED)
        raised(self, BadText, (1, 0), read_store, text_of("level 2", "row 0 0 5"))
        raised(self, BadText, (1, 0), read_store, text_of("level 2", ""))
        raised(self, BadText, (2, 0), read_store, text_of("level 2", LACED, ""))
        raised(self, BadText, (7, 0), read_store, text + "\n")
        raised(self, BadText, (0, 0), read_store, "\n" + text)
        raised(self, BadText, (3, 0), read_store, text_of(*LINES[:3], "", *LINES[3:]))
        for at in range(2, 7):
            self.assertEqual(len(read_store(text_of(*LINES[:at], *LINES[at + 1:]))), 4)

    def test_lines_told_twice_and_exchanged(self):
        for at in range(7):
            lines = [*LINES[:at + 1], *LINES[at:]]
            told = (1, 0) if at == 0 else (2, 0) if at == 1 else (at + 1, 1)
            raised(self, BadText, told, read_store, text_of(*lines))
        raised(self, BadText, (0, 0), read_store, text_of(LINES[1], LINES[0], *LINES[2:]))
        raised(self, BadText, (1, 0), read_store, text_of(LINES[0], LINES[2], LINES[1], *LINES[3:]))
        for at in range(2, 6):
            lines = [*LINES[:at], LINES[at + 1], LINES[at], *LINES[at + 2:]]
            raised(self, BadText, (at + 1, 1), read_store, text_of(*lines))

    def test_words_left_out_put_in_and_told_twice(self):
        for line in range(7):
            words = LINES[line].split(" ")
            for at in range(len(words)):
                raised(self, BadText, (line, at), self.read_with, line, [*words[:at], "x", *words[at:]])
                raised(self, BadText, (line, at), self.read_with, line, [*words[:at], "", *words[at:]])
                raised(self, BadText, (line, at), self.read_with, line, [*words[:at], "x", *words[at + 1:]])
                raised(self, BadText, (line, at), self.read_with, line, words[:at] or [""])
            raised(self, BadText, (line, len(words)), self.read_with, line, [*words, ""])
        for line in (0, *range(2, 7)):
            words = LINES[line].split(" ")
            raised(self, BadText, (line, len(words)), self.read_with, line, [*words, words[-1]])
            raised(self, BadText, (line, len(words) - 1), self.read_with, line, words[:-1])

    def read_with(self, line, words):
        return read_store(text_of(*LINES[:line], " ".join(words), *LINES[line + 1:]))

    def test_numbers(self):
        for words in (["level", "101"], ["level", "-1"], ["level", "02"], ["level", ""], ["level", "1.0"], ["level", "9" * 5000]):
            raised(self, BadText, (0, 1), self.read_with, 0, words)
        for at, most in ((1, FAR - 1), (2, FAR - 1), (3, 10 ** 9)):
            for word in (str(most + 1), "-1", "00", "01", "+1", "1_0", "x", "9" * 5000):
                words = ["row", "0", "0", "5"]
                words[at] = word
                raised(self, BadText, (2, at), self.read_with, 2, words)
        # Such a word comes ahead of what is wrong with the curve.
        for x, y, at in ((FAR, 0, 1), (0, FAR, 2)):
            lines = ("level 100", "curve 0>0 1>0 2>0 3>1", f"row {x} {y} 1")
            raised(self, BadText, (2, at), read_store, text_of(*lines))
        store = read_store(text_of("level 100", LACED, f"row {FAR - 1} {FAR - 1} {10 ** 9}"))
        self.assertEqual(store.rows, ((FAR - 1, FAR - 1, 10 ** 9),))
        for x, y in ((4, 0), (0, 4), (FAR - 1, FAR - 1)):
            raised(self, BadText, (3, 1), self.read_with, 3, ["row", str(x), str(y), "1"])
        store = read_store(text_of("level 0", LACED, "row 0 0 0"))
        self.assertEqual(store.rows, ((0, 0, 0),))

    def test_the_words_of_curves(self):
        for words, told in (
            ("", 1), ("0>0", 2), ("0>0 1>0 2>0", 4), ("0>0 1>0 2>0 2>0", 4), ("0>0 1>0 2>0 3>16", 4), ("0>0 1>0 2>0 3>0 /", 6),
            ("0>0 1>0 2>0 3>0 0>0", 5), ("0>0 1>0 2>0 4>0", 4), ("0>0 1>0 2>0 3>0 / 0>0 x", 7), ("x", 1),
        ):
            line = ["curve", *words.split(" ")] if words else ["curve"]
            raised(self, BadText, (1, told), self.read_with, 1, line)
        raised(self, BadText, (1, 1), self.read_with, 1, ["curve", ""])

    def test_curves_that_are_none_or_not_in_their_least_form(self):
        none = "curve 0>0 1>0 2>0 3>1"
        raised(self, BadCurve, (0,), read_store, text_of("level 2", none))
        raised(self, BadCurve, (1,), read_store, text_of("level 2", "curve 0>0 1>0 2>0 3>1 / 0>0 1>0 2>0 3>2"))
        many = "curve " + " / ".join(["0>0 1>0 2>0 3>0"] * 17)
        raised(self, BadCurve, ("rows",), read_store, text_of("level 2", many))
        twice = "curve " + " / ".join(["0>1 1>0 2>0 3>0"] * 2)
        raised(self, BadText, (1, 1), read_store, text_of("level 2", twice))
        unmet = LACED + " / 0>0 2>0 1>0 3>0"
        raised(self, BadText, (1, 1), read_store, text_of("level 2", unmet))
        # With all lines read, and ahead of the rows one after another.
        for line in (none, many, twice, unmet):
            raised(self, BadText, (3, 3), read_store, text_of("level 2", line, "row 9 9 9", "row 0 0 x"))
        raised(self, BadCurve, (0,), read_store, text_of("level 2", none, "row 9 9 9"))
        raised(self, BadText, (1, 1), read_store, text_of("level 2", twice, "row 9 9 9"))
        self.assertEqual(read_store(text_of("level 2", f"curve {ring()}")), Store(ring(), 2))

    def test_the_order_of_the_keys(self):
        for curve in CURVES:
            places = list(curve(2).walk())
            lines = [f"row {x} {y} 1" for x, y in places]
            start = ["level 2", f"curve {curve}"]
            self.assertEqual(len(read_store(text_of(*start, *lines))), 16)
            for at in range(15):
                mixed = [*lines[:at], lines[at + 1], lines[at], *lines[at + 2:]]
                raised(self, BadText, (at + 3, 1), read_store, text_of(*start, *mixed))
                raised(self, BadText, (at + 3, 1), read_store, text_of(*start, *lines[:at + 1], *lines[at:]))
        raised(self, BadText, (2, 1), read_store, text_of("level 0", LACED, "row 0 1 1", "row 1 0 1"))

    def test_long_texts(self):
        began = time.perf_counter()
        raised(self, BadText, (100002, 0), read_store, text_of("level 20", LACED, *["row 0 0 0"] * 100000, ""))
        raised(self, BadText, (3, 1), read_store, text_of("level 20", LACED, *["row 0 0 0"] * 100000))
        raised(self, BadText, (0, 0), read_store, "x" * 10 ** 6)
        raised(self, BadText, (0, 1), read_store, "level" + " " * 10 ** 6)
        self.assertLess(time.perf_counter() - began, 20)


if __name__ == "__main__":
    unittest.main()
