"""Desks: lines and their answers."""

import itertools
import random
import unittest

from curveboxes.boxes import Box
from curveboxes.chains import widest
from curveboxes.covers import cover
from curveboxes.curves import Curve
from curveboxes.desk import Desk
from curveboxes.errors import (
    BadBox, BadCurve, BadKey, BadLevel, BadLine, BadMany, BadPlace, BadRow, CurveError, Endless, NoDeed, NoRow, Outside,
    TooMany, Unlike,
)
from curveboxes.joints import Near, joints
from curveboxes.judging import Breach, judge, numbers
from curveboxes.kin import Same, compare
from curveboxes.makers import cup, laced, ring, turning
from curveboxes.ranges import count, next_key, spans_of
from curveboxes.reader import read_store
from curveboxes.rules import AtMost, Rule
from curveboxes.stores import Store
from curveboxes.texts import store_text
from tests.reference import LEVELS_101, WINDOWS_2001, some_rows
from tests.values import HUGE, NEGATIVE, OWN, STRANGE, raised

WRONG = [*STRANGE, *OWN, *HUGE, *NEGATIVE]
CURVES = [laced(), cup(), turning(), ring(), *[Curve(*rows) for rows in some_rows(5, 4)]]
GREAT = 10 ** 62 - 1
FAR = 2 ** 100
# For each line how many numbers stand behind its first word.
NUMBERS = {
    "level": 1, "key": 2, "place": 1, "count": 4, "spans": 4, "next": 5, "cover": 5, "most": 2, "joints": 0, "page": 1, "put": 3,
    "take": 2, "get": 2, "scan": 4, "undo": 0, "show": 0,
}
MADE = {"laced": laced, "cup": cup, "turning": turning, "ring": ring}


def some_desk():
    """A desk with four rows and six deeds."""
    desk = Desk()
    desk.run("maker turning", "level 3", "put 1 1 5", "put 7 0 0", "put 3 4 1000000000", "put 0 6 77")
    return desk


def seen(desk):
    store = desk.store_now()
    return store_text(store), store.deeds


class Answers(unittest.TestCase):
    def test_at_first(self):
        desk = Desk()
        self.assertEqual(desk.store_now(), Store(laced(), 0))
        self.assertEqual((desk.ask("show"), desk("show")), ("level 0 | curve 0>0 1>0 2>0 3>0",) * 2)
        raised(self, NoDeed, (), desk, "undo")
        raised(self, NoDeed, (), desk.ask, line="undo")

    def test_ask_and_call_and_run(self):
        for call in (Desk.ask, Desk.__call__):
            desk = Desk()
            self.assertEqual(call(desk, "level 2"), "ok")
            self.assertEqual(call(desk, line="put 1 2 3"), "ok")
            self.assertEqual(call(desk, "get 1 2"), "3")
        self.assertEqual(Desk().run(), [])
        self.assertEqual(Desk().run("level 2", "put 1 2 3", "get 1 2"), ["ok", "ok", "3"])
        self.assertEqual(Desk()(line="level 2"), "ok")

    def test_curves_makers_and_levels(self):
        desk = some_desk()
        for name, made in MADE.items():
            self.assertEqual(desk(f"maker {name}"), "ok")
            self.assertEqual((desk.store_now().curve_now, desk.store_now().level_now), (made(), 3))
        for curve in CURVES:
            self.assertEqual(desk(f"curve {curve}"), "ok")
            self.assertEqual(desk.store_now().curve_now, curve)
        self.assertEqual(desk("curve " + " / ".join(["0>1 1>0 2>0 3>0"] * 2)), "ok")
        self.assertEqual(desk.store_now().curve_now, laced())
        for level in (100, 3, 50):
            self.assertEqual(desk(f"level {level}"), "ok")
            self.assertEqual(desk.store_now().level_now, level)
        self.assertEqual(desk.store_now().deeds, 6 + 4 + len(CURVES) + 1 + 3)
        self.assertEqual(len(desk.store_now()), 4)

    def test_keys_places_and_ranges(self):
        for curve, level in itertools.product(CURVES, (0, 1, 3)):
            desk = Desk()
            desk.run(f"curve {curve}", f"level {level}")
            square = curve(level)
            for x, y in itertools.product(range(2 ** level), repeat=2):
                self.assertEqual(desk(f"key {x} {y}"), str(square[x, y]))
                self.assertEqual(desk(f"place {square[x, y]}"), f"{x} {y}")
            chance = random.Random(level)
            for _ in range(20):
                x, y = chance.randrange(2 ** level), chance.randrange(2 ** level)
                box = Box(x, y, chance.randrange(1, 2 ** level - x + 1), chance.randrange(1, 2 ** level - y + 1))
                self.assertEqual(desk(f"count {box}"), str(count(square, box)))
                self.assertEqual(desk(f"spans {box}"), str(spans_of(square, box)))
                key = chance.randrange(4 ** level)
                told = next_key(square, box, key)
                self.assertEqual(desk(f"next {key} {box}"), "none" if told is None else str(told))
                most = chance.randrange(1, 9)
                found = cover(square, box, most)
                self.assertEqual(desk(f"cover {most} {box}"), f"{found.spans} over {found.over}")
        desk = Desk()
        self.assertEqual(desk.run("level 1", "next 3 0 0 1 1", "next 0 0 0 1 1", "cover 1000 0 0 1 2"), ["ok", "none", "0", "0 2 over 0"])

    def test_judging(self):
        rules = (AtMost(2, 2, 3), AtMost(2, 2, 4), ~AtMost(1, 1, 1), AtMost(2, 1, 1) | ~AtMost(2, 1, 1))
        for curve in CURVES:
            desk = Desk()
            desk(f"curve {curve}")
            for rule in rules:
                found = judge(curve, rule)
                told = f"breach {found.level} {found.x} {found.y}" if isinstance(found, Breach) else "always"
                self.assertEqual(desk(f"judge {rule}"), told)
            for size in ((1, 1), (2, 2), (3, 1), (1, 4)):
                number, level, x, y = numbers(curve, *size).rows[-1]
                self.assertEqual(desk(f"most {size[0]} {size[1]}"), f"{number} at {level} {x} {y}")
            found = joints(curve)
            if isinstance(found, Near):
                self.assertEqual(desk("joints"), f"near {len(found.joints)}")
                for many in (1, 2, 3, 5):
                    self.assertEqual(desk(f"page {many}"), " ".join(f"{w}x{h}" for w, h in widest(curve, many)))
            else:
                self.assertEqual(desk("joints"), f"far {found.level} {found.key}")
                self.assertEqual(desk("page 1"), "1x1")
                raised(self, Endless, (found.level, found.key), desk, "page 2")
            for other in CURVES:
                told = compare(curve, other)
                told = "same" if isinstance(told, Same) else f"apart {told.level} {told.key}"
                self.assertEqual(desk(f"same {other}"), told)
            self.assertEqual(desk.store_now().deeds, 1)

    def test_rows(self):
        desk = some_desk()
        told = ("level 3", f"curve {turning()}", "row 1 1 5", "row 3 4 1000000000", "row 0 6 77", "row 7 0 0")
        store = read_store("\n".join(told[:2]))
        for x, y, value in ((1, 1, 5), (3, 4, 10 ** 9), (0, 6, 77), (7, 0, 0)):
            store[x, y] = value
        self.assertEqual(desk("show"), store_text(store).replace("\n", " | "))
        self.assertEqual([desk("get 3 4"), desk("get 7 0"), desk("take 3 4"), desk("put 7 0 1"), desk("get 7 0")],
                         ["1000000000", "0", "1000000000", "ok", "1"])
        store.take(3, 4)
        store[7, 0] = 1
        self.assertEqual(desk.store_now(), store)
        for box in (Box(0, 0, 8, 8), Box(1, 1, 6, 6), Box(7, 7), Box(0, 1, 1, 7), Box(0, 0, 8, 1)):
            found = store.scan(box)
            words = [f"seeks {found.seeks} passed {found.passed}", *[f"{x},{y},{value}" for x, y, value in found.rows]]
            self.assertEqual(desk(f"scan {box}"), " ".join(words))
        self.assertEqual(Desk()("scan 0 0 1 1"), "seeks 1 passed 0")
        self.assertEqual(Desk().run("put 0 0 7", "scan 0 0 1 1"), ["ok", "seeks 1 passed 1 0,0,7"])

    def test_undo(self):
        desk = some_desk()
        desk.run("take 1 1", "curve 0>0 1>0 2>0 3>0", "maker laced", "level 3")
        words = []
        while desk.store_now().deeds:
            words.append(desk("undo"))
        self.assertEqual(words, ["exchange"] * 3 + ["take"] + ["put"] * 4 + ["exchange"] * 2)
        self.assertEqual(desk.store_now(), Store(laced(), 0))
        raised(self, NoDeed, (), desk, "undo")

    def test_store_now_is_a_twin(self):
        desk = some_desk()
        store = desk.store_now()
        self.assertEqual((store.deeds, store.level_now, store.curve_now), (6, 3, turning()))
        store.take(1, 1)
        store.exchange(laced(), 9)
        self.assertEqual((desk("get 1 1"), desk.store_now().deeds), ("5", 6))
        held = desk.store_now()
        desk("take 1 1")
        self.assertEqual((held[1, 1], held.deeds), (5, 6))


class Lines(unittest.TestCase):
    def refused(self, line, word):
        desk = some_desk()
        told = seen(desk)
        for call in (desk.ask, desk, desk.run):
            raised(self, BadLine, (word,), call, line)
        raised(self, BadLine, (word,), desk.run, "level 9", "undo", "undo", line, "show")
        self.assertEqual(seen(desk), told)

    def test_what_is_no_string(self):
        for value in [*WRONG, Desk(), Store(laced(), 1), ["show"], ("level 1",)]:
            if not isinstance(value, str):
                self.refused(value, 0)

    def test_first_words(self):
        for line in ("", " ", "Show", "show ", "shows", " show", "show\n", "\n", "run", "ask", "show\nshow", "key\n1 1", "level:1"):
            self.refused(line, 1 if line == "show " else 0)

    def test_words_too_few_and_too_many(self):
        for name, many in NUMBERS.items():
            for few in range(many):
                self.refused(" ".join([name, *["1"] * few]), few + 1)
            for more in (["1"], ["x"], [""], ["1", "1"]):
                self.refused(" ".join([name, *["1"] * many, *more]), many + 1)
        for name in ("maker", "curve", "same", "judge"):
            self.refused(name, 1)
            self.refused(name + " ", 1)
        self.refused("maker ring ring", 2)
        self.refused("maker ring ", 2)

    def test_numbers_that_cannot_stand(self):
        for name, many in NUMBERS.items():
            for at in range(many):
                for word in ("x", "", "-1", "01", "+1", "1.0", "1,2", str(GREAT + 1), "9" * 5000, "1\n", "0x1", "1_0", "None"):
                    words = ["1"] * many
                    words[at] = word
                    self.refused(" ".join([name, *words]), at + 1)
                    # The first one is told, also if one more is wrong or too many.
                    self.refused(" ".join([name, *words[:at + 1], *["y"] * many]), at + 1)

    def test_sizes(self):
        for word in ("0", "17", "160", "x", "-1"):
            self.refused(f"most {word} 1", 1)
            self.refused(f"most {word}", 1)
            self.refused(f"most 1 {word}", 2)
            self.refused(f"most 16 {word}", 2)
        desk = Desk()
        raised(self, TooMany, ("cells", 16), desk, "most 16 2")
        raised(self, TooMany, ("cells", 16), desk, "most 5 4")
        self.assertEqual(desk("most 1 16"), "16 at 4 0 0")

    def test_makers(self):
        for word in ("plain", "Laced", "laced()", "", "rings", "turn", "0"):
            self.refused(f"maker {word}", 1)

    def test_the_words_of_curves(self):
        for name in ("curve", "same"):
            for words, told in (
                ("0>0", 2), ("0>0 1>0 2>0", 4), ("0>0 1>0 2>0 2>0", 4), ("0>0 1>0 2>0 3>16", 4), ("0>0 1>0 2>0 3>0 /", 6),
                ("0>0 1>0 2>0 3>0 0>0", 5), ("4>0 1>0 2>0 3>0", 1), ("0>0 1>0 2>0 3>0 / 0>0 x", 7), ("laced", 1),
                ("0>0  1>0 2>0 3>0", 2), ("0>0 1>0 2>0 3>0 ", 5), (" 0>0 1>0 2>0 3>0", 1), ("0>0 1>0 2>0 3>0\n", 4),
            ):
                self.refused(f"{name} {words}", told)
            desk = some_desk()
            told = seen(desk)
            raised(self, BadCurve, (0,), desk, f"{name} 0>0 1>0 2>0 3>1")
            raised(self, BadCurve, ("rows",), desk, f"{name} " + " / ".join(["0>0 1>0 2>0 3>0"] * 17))
            self.assertEqual(seen(desk), told)

    def test_the_words_of_rules(self):
        for words, told in (
            ("at", 2), ("at most", 3), ("at most 3", 4), ("at most 3 of", 5), ("at most 3 of 2", 6), ("at most 17 of 2 2", 3),
            ("at most 3 of 2 2 2", 7), ("at most 3 of 2 2 and at most 4 of 2 2", 7), ("( at most 3 of 2 2 and begins 0 0 of 2 2", 15),
            ("not", 2), ("not not x", 3), ("begins 1 0 of 2", 6), ("1 0 follows 0 0 of 2 x", 8), ("always", 1), (" at", 1),
        ):
            self.refused(f"judge {words}", told)
        desk = some_desk()
        for words, error, fields in (
            ("at most 3 of 0 2", BadMany, (0,)), ("at most 3 of 5 4", TooMany, ("cells", 16)),
            ("begins 2 0 of 2 2", BadPlace, ((2, 0),)), ("1 1 follows 1 1 of 2 2", BadPlace, ((1, 1),)),
            ("( at most 3 of 2 2 and at most 3 of 2 1 )", Unlike, ("size",)),
        ):
            raised(self, error, fields, desk, f"judge {words}")
            raised(self, error, fields, Rule.read, words)
        self.refused("judge " + "not " * 30 + "at most 1 of 1 1", 31)
        self.assertEqual(desk("judge " + "not " * 29 + "at most 1 of 1 1"), "breach 0 0 0")
        self.assertEqual(desk("judge " + "not " * 28 + "at most 1 of 1 1"), "always")


class Raised(unittest.TestCase):
    def check(self, desk, line, error, *fields):
        told = seen(desk)
        for call in (desk, desk.run, lambda one: desk.run("put 1 1 1", one)):
            raised(self, error, fields, call, line)
            self.assertEqual(seen(desk), told)

    def test_numbers_that_do_not_fit(self):
        desk = some_desk()
        for number in (101, 10 ** 30, GREAT):
            self.check(desk, f"level {number}", BadLevel, number)
        for number in (8, FAR, GREAT):
            for word in ("key", "take", "get"):
                self.check(desk, f"{word} {number} 1", BadPlace, (number, 1))
                self.check(desk, f"{word} 1 {number}", BadPlace, (1, number))
            self.check(desk, f"put {number} 1 {GREAT}", BadPlace, (number, 1))
            self.check(desk, f"put 1 {number} 1", BadPlace, (1, number))
        for number in (10 ** 9 + 1, GREAT):
            self.check(desk, f"put 1 1 {number}", BadRow, number)
        for number in (64, FAR, GREAT):
            self.check(desk, f"place {number}", BadKey, number)
            self.check(desk, f"next {number} 1 1 2 2", BadKey, number)
            self.check(desk, f"next {number} 7 1 2 2", BadBox, "outside")
            self.check(desk, f"next {number} 7 1 0 2", BadBox, "width")
        for number in (0, 17, GREAT):
            self.check(desk, f"page {number}", BadMany, number)
        for number in (0, 1001, GREAT):
            self.check(desk, f"cover {number} 1 1 2 2", BadMany, number)
            self.check(desk, f"cover {number} 1 7 2 2", BadBox, "outside")
            self.check(desk, f"cover {number} 1 7 2 0", BadBox, "height")

    def test_boxes(self):
        desk = some_desk()
        for word in ("count", "spans", "scan", "next 1", "cover 1"):
            for number in (FAR, GREAT):
                self.check(desk, f"{word} {number} {number} 0 0", BadBox, "x")
                self.check(desk, f"{word} 1 {number} 0 0", BadBox, "y")
                self.check(desk, f"{word} 1 1 {number + 1 if number == FAR else number} 0", BadBox, "width")
            self.check(desk, f"{word} 1 1 0 0", BadBox, "width")
            self.check(desk, f"{word} 1 1 1 0", BadBox, "height")
            self.check(desk, f"{word} 8 1 1 1", BadBox, "outside")
            self.check(desk, f"{word} {FAR - 1} 1 {FAR} 1", BadBox, "outside")

    def test_rows_and_deeds(self):
        desk = some_desk()
        for word in ("take", "get"):
            self.check(desk, f"{word} 2 2", NoRow, (2, 2))
        self.check(desk, "level 2", Outside, desk.store_now().rows[1][:2])
        self.check(desk, "level 0", Outside, (1, 1))
        raised(self, NoDeed, (), desk.run, *["undo"] * 7)
        self.assertEqual(desk.store_now().deeds, 6)
        desk.run("level 5", *[f"put {at // 32} {at % 32} 1" for at in range(500) if (at // 32, at % 32) not in desk.store_now()])
        full = len(desk.store_now())
        for at in range(500 - full):
            desk(f"put 31 {at} 1")
        self.assertEqual(len(desk.store_now()), 500)
        self.check(desk, "put 31 31 1", TooMany, "rows", 500)

    def test_too_many(self):
        desk = Desk()
        desk.run("level 20", f"curve {Curve.read(WINDOWS_2001)}")
        self.check(desk, "most 4 4", TooMany, "windows", 2000)
        self.check(desk, "judge at most 0 of 4 4", TooMany, "windows", 2000)
        desk(f"curve {Curve.read(LEVELS_101)}")
        self.check(desk, "most 2 1", TooMany, "levels", 100)
        desk("maker laced")
        self.check(desk, "spans 3 0 1 2000", TooMany, "spans", 1000)
        self.check(desk, "cover 5 3 0 1 2000", TooMany, "spans", 1000)
        self.assertEqual(desk("count 3 0 1 2000"), "2000")


class Runs(unittest.TestCase):
    def test_a_refused_line_leaves_all_as_it_was(self):
        wrong = ("level", "level 101", None, "undo 1", "take 5 5", "scan 9 9 9 9", "judge x", "put 9 9 9", 7, "page 0")
        changing = ("put 0 0 1", "take 1 1", "undo", "undo", "maker ring", "level 7", "curve 0>0 2>0 3>0 1>0", "put 7 7 7")
        chance = random.Random(3)
        for _ in range(60):
            desk = some_desk()
            told, store = seen(desk), desk.store_now()
            lines = chance.sample(changing, chance.randrange(len(changing)))
            lines.insert(chance.randrange(len(lines) + 1), chance.choice(wrong))
            self.assertRaises(CurveError, desk.run, *lines)
            self.assertEqual((seen(desk), desk.store_now()), (told, store))
            words = [desk("undo") for _ in range(6)]
            self.assertEqual(words, ["put"] * 4 + ["exchange"] * 2)
            raised(self, NoDeed, (), desk, "undo")

    def test_lines_before_the_run_stay(self):
        desk = Desk()
        desk.run("level 4", "put 3 3 3")
        self.assertRaises(NoRow, desk.run, "take 3 3", "get 3 3")
        self.assertEqual(desk("get 3 3"), "3")
        self.assertEqual(desk.run("take 3 3", "put 3 3 4", "get 3 3"), ["3", "ok", "4"])
        self.assertEqual(desk.store_now().deeds, 4)

    def test_two_desks(self):
        one, other = Desk(), Desk()
        one.run("level 2", "put 1 1 1")
        self.assertEqual(other("show"), "level 0 | curve 0>0 1>0 2>0 3>0")
        self.assertNotEqual(one.store_now(), other.store_now())
        self.assertIs(one == other, False)
        self.assertIs(one == one, True)


if __name__ == "__main__":
    unittest.main()
