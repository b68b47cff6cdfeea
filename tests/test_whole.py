"""What holds over the whole program: stores, desks, ranges, judging and books together."""

import itertools
import random
import time
import unittest

from curveboxes.books import Book
from curveboxes.boxes import Box
from curveboxes.covers import cover, shows_cover
from curveboxes.curves import Curve
from curveboxes.desk import Desk
from curveboxes.errors import CurveError, NoDeed, TooMany
from curveboxes.judging import judge, most_ranges, never_more, numbers
from curveboxes.look_judging import shows_judge, shows_never_more, shows_numbers
from curveboxes.makers import cup, laced, plain, ring, turning
from curveboxes.ranges import count, spans_of
from curveboxes.reader import read_store
from curveboxes.rules import AtMost
from curveboxes.spans import Spans
from curveboxes.stores import Store, foes
from curveboxes.texts import store_text
from curveboxes.windows import window_at
from tests.model import Plain, check_same
from tests.reference import some_rows

CURVES = [laced(), cup(), turning(), ring(), plain(2, 0, 1, 3), *[Curve(*rows) for rows in some_rows(4, 3)]]
NAMES = ("laced", "cup", "turning", "ring")
SIZES = ((1, 1), (2, 1), (1, 2), (2, 2), (3, 2), (4, 1))


def some_box(chance, side):
    x, y = chance.randrange(side), chance.randrange(side)
    return Box(x, y, chance.randrange(1, side - x + 1), chance.randrange(1, side - y + 1))


def some_line(chance, level):
    """A line of some form; most numbers fit this level, some do not."""
    side = 2 ** level
    x, y = chance.randrange(side), chance.randrange(side)
    box = some_box(chance, side)
    if chance.random() < 0.05:
        x = side
        box = Box(x, y)
    size = chance.choice(SIZES)
    return chance.choice((
        f"curve {chance.choice(CURVES)}", f"maker {chance.choice(NAMES)}", f"level {chance.randrange(5)}", f"key {x} {y}",
        f"place {chance.randrange(4 ** level + 1)}", f"count {box}", f"spans {box}", f"next {chance.randrange(4 ** level)} {box}",
        f"cover {chance.randrange(9)} {box}", f"judge {AtMost(*size, chance.randrange(6))}", f"most {size[0]} {size[1]}", "joints",
        f"page {chance.randrange(4)}", f"same {chance.choice(CURVES)}", f"take {x} {y}", f"get {x} {y}", f"scan {box}", "undo",
        "show", "show me", f"level {level} 1", "page", f"put {x} {y}", *[f"put {x} {y} {chance.randrange(10 ** 9)}"] * 9,
    ))


def answered(desk, line):
    """The answer, or the error with its fields."""
    try:
        return desk(line)
    except CurveError as error:
        return type(error).__name__, sorted(vars(error).items())


def answers_to(lines):
    desk = Desk()
    return desk, [answered(desk, line) for line in lines]


def script(seed, many=60):
    """Lines that mostly fit the desk that takes them."""
    chance = random.Random(seed)
    desk = Desk()
    lines = []
    for _ in range(many):
        lines.append(some_line(chance, desk.store_now().level_now))
        answered(desk, lines[-1])
    return lines


class Scripts(unittest.TestCase):
    def test_stores(self):
        for seed in range(30):
            chance = random.Random(seed)
            store = Store(chance.choice(CURVES), 3)
            plain_store = Plain(store.curve_now, 3)
            for _ in range(40):
                self.do(chance, store, plain_store)
                check_same(self, store, plain_store)
                self.look_at(chance, store)

    def do(self, chance, store, told):
        side = 2 ** told.level
        place = chance.randrange(side), chance.randrange(side)
        what = chance.random()
        if what < 0.5:
            store[place] = 3
            told.put(place, 3)
        elif what < 0.7 and place in store:
            self.assertEqual(store.take(*place), told.take(place))
        elif what < 0.85:
            curve, level = chance.choice(CURVES), chance.randrange(told.level, 4)
            store.exchange(curve, level)
            told.exchange(curve, level)
        elif store.deeds:
            self.assertEqual(store.undo(), told.undo())

    def look_at(self, chance, store):
        square = store.square_now
        keys = [square[row[:2]] for row in store]
        self.assertEqual(keys, sorted(set(keys)))
        self.assertEqual([square.place_of(key) for key in keys], [row[:2] for row in store])
        box = some_box(chance, square.side)
        scan = store.scan(box)
        most = chance.randrange(1, 6)
        spans = spans_of(square, box)
        self.assertEqual(scan.rows, store.all_of(box).rows)
        self.assertEqual(scan.rows, store.sweep(box, most).rows)
        self.assertEqual(scan.rows, tuple(row for row in store if square[row[:2]] in spans))
        self.assertEqual(scan.rows, tuple(row for row in store if row[:2] in box))
        self.assertLessEqual(scan.seeks, count(square, box))
        self.assertEqual(store.sweep(box, most).seeks, len(cover(square, box, most).spans))
        if len(store):
            lots = list(store.lots(most))
            self.assertEqual(tuple(row for _, rows in lots for row in rows), store.rows)
            self.assertTrue(all(row[:2] in lot for lot, rows in lots for row in rows))
            around = lots[0][0]
            for lot, _ in lots:
                around |= lot
            self.assertTrue(around <= square.box())
            self.assertEqual(store.scan(around).rows, store.rows)
        self.assertEqual(read_store(store_text(store)), store)

    def test_all_that_is_taken_back_comes_back(self):
        for seed in range(20):
            chance = random.Random(seed)
            store = Store(chance.choice(CURVES), 3)
            told = Plain(store.curve_now, 3)
            seen = []
            for _ in range(30):
                deeds = store.deeds
                before = store.twin(), store_text(store)
                self.do(chance, store, told)
                if store.deeds > deeds:
                    seen.append(before)
                elif store.deeds < deeds:
                    seen.pop()
            while seen:
                store.undo()
                twin, text = seen.pop()
                self.assertEqual((store, store.deeds, store_text(store)), (twin, twin.deeds, text))
            self.assertRaises(NoDeed, store.undo)

    def test_desks_tell_what_functions_return_for_their_store(self):
        for seed in range(15):
            lines = script(seed)
            desk = Desk()
            for line in lines:
                store = desk.store_now()
                answer = answered(desk, line)
                words = line.split(" ")
                if isinstance(answer, tuple):
                    self.assertEqual((desk.store_now(), desk.store_now().deeds), (store, store.deeds))
                elif words[0] == "scan":
                    found = store.scan(Box(*map(int, words[1:])))
                    told = [f"{x},{y},{value}" for x, y, value in found.rows]
                    self.assertEqual(answer, " ".join([f"seeks {found.seeks} passed {found.passed}", *told]))
                elif words[0] == "show":
                    self.assertEqual(read_store(answer.replace(" | ", "\n")), store)
                elif words[0] in ("put", "take", "curve", "maker", "level"):
                    self.assertEqual(desk.store_now().deeds, store.deeds + 1)
                elif words[0] == "undo":
                    self.assertEqual((store.undo(), store), (answer, desk.store_now()))
                else:
                    self.assertEqual((desk.store_now(), desk.store_now().deeds), (store, store.deeds))
                    self.assertEqual(answered(desk, line), answer)

    def test_the_same_lines_once_more_do_the_same(self):
        for seed in range(10):
            lines = script(seed)
            one, told = answers_to(lines)
            other, again = answers_to(lines)
            self.assertEqual(told, again)
            self.assertEqual((one.store_now(), one("show")), (other.store_now(), other("show")))
            right = [line for line, answer in zip(lines, told) if isinstance(answer, str)]
            third = Desk()
            self.assertEqual(third.run(*right), [answer for answer in told if isinstance(answer, str)])
            self.assertEqual((third.store_now(), third.store_now().deeds), (one.store_now(), one.store_now().deeds))
            wrong = [line for line, answer in zip(lines, told) if isinstance(answer, tuple)]
            self.assertTrue(wrong)
            deeds = third.store_now().deeds
            self.assertRaises(CurveError, third.run, *right[:20], "scan", *right)
            self.assertEqual((third.store_now(), third.store_now().deeds), (one.store_now(), deeds))
            while third.store_now().deeds:
                third("undo")
            self.assertEqual(third.store_now(), Store(laced(), 0))
            self.assertEqual(third.run(*right), [answer for answer in told if isinstance(answer, str)])

    def test_a_store_that_was_read_lives_on_as_the_desk_does(self):
        for seed in range(10):
            desk, _ = answers_to(script(seed))
            store = read_store(desk("show").replace(" | ", "\n"))
            self.assertEqual((store, store.deeds), (desk.store_now(), 0))
            chance = random.Random(seed)
            for _ in range(20):
                place = chance.randrange(store.square_now.side), chance.randrange(store.square_now.side)
                desk(f"put {place[0]} {place[1]} 4")
                store[place] = 4
                box = some_box(chance, store.square_now.side)
                found = store.scan(box)
                self.assertEqual(desk(f"scan {box}").split(" ")[:4], ["seeks", str(found.seeks), "passed", str(found.passed)])
            self.assertEqual(store, desk.store_now())


class Judged(unittest.TestCase):
    def test_numbers_are_those_of_windows_ranges_and_seeks(self):
        for curve, (width, height) in itertools.product(CURVES, SIZES):
            for number, level, x, y in numbers(curve, width, height).rows:
                box, square = Box(x, y, width, height), curve(level)
                self.assertEqual(count(square, box), number)
                self.assertEqual(window_at(square, box).ranges, number)
                self.assertEqual(len(spans_of(square, box)), number)
                self.assertEqual(cover(square, box, number).over, 0)
                self.assertTrue(shows_cover(square, box, number, cover(square, box, number)))
                self.assertEqual(len(foes(square, box)), number - 1)

    def test_a_cost_is_reached_by_foes_and_never_passed(self):
        chance = random.Random(8)
        for curve in CURVES:
            book = Book(*[(size, chance.randrange(1, 100)) for size in SIZES])
            reached = 0
            for size in book:
                number, level, x, y = numbers(curve, *size).rows[-1]
                box = Box(x, y, *size)
                store = Store(curve, level)
                for place in foes(curve(level), box):
                    store[place] = 1
                self.assertEqual(store.scan(box).seeks, number)
                reached += book[size] * number
                with store.trial():
                    for _ in range(20):
                        store[chance.randrange(2 ** level), chance.randrange(2 ** level)] = 2
                        self.assertLessEqual(store.scan(box).seeks, most_ranges(curve, *size))
            self.assertEqual(book.cost(curve), reached)
            self.passes_never(chance, curve, book)

    def passes_never(self, chance, curve, book):
        for level in (3, 6, 100):
            store = Store(curve, level)
            side = 2 ** level
            x, y = chance.randrange(side - 7), chance.randrange(side - 7)
            for _ in range(20):
                store[x + chance.randrange(8), y + chance.randrange(8)] = 1
            total = 0
            for width, height in book:
                box = Box(x + chance.randrange(8 - width + 1), y + chance.randrange(8 - height + 1), width, height)
                total += book[width, height] * store.scan(box).seeks
            self.assertLessEqual(total, book.cost(curve))

    def test_costs_and_comparisons(self):
        for one, other in itertools.product(CURVES[:5], repeat=2):
            for size in SIZES[:4]:
                most, least = most_ranges(one, *size), most_ranges(other, *size)
                if never_more(one, other, *size):
                    self.assertLessEqual(most, least)
                    self.assertLessEqual(Book((size, 7)).cost(one), Book((size, 7)).cost(other))
                for more in range(-1, 4):
                    found = never_more(one, other, *size, more)
                    self.assertTrue(shows_never_more(one, other, *size, more, found))
                self.assertEqual(bool(judge(one, AtMost(*size, least))), most <= least)
            self.assertEqual(Book((size, 1)).best(one, other)[0][0], min(most_ranges(one, *size), most_ranges(other, *size)))

    def test_lookers_and_what_they_look_at(self):
        for curve, size in itertools.product(CURVES, SIZES):
            found = numbers(curve, *size)
            self.assertTrue(shows_numbers(curve, *size, found))
            most = most_ranges(curve, *size)
            for number in range(most + 2):
                told = judge(curve, AtMost(*size, number))
                self.assertEqual(bool(told), number >= most)
                self.assertTrue(shows_judge(curve, AtMost(*size, number), told))

    def test_forms_of_a_curve_hold_their_stores(self):
        chance = random.Random(1)
        for curve in CURVES:
            store = Store(curve, 4)
            for _ in range(40):
                store[chance.randrange(16), chance.randrange(16)] = chance.randrange(9)
            rows = store.rows
            store.curve_now = -curve
            self.assertEqual(store.rows, rows[::-1])
            store.curve_now = ~curve
            self.assertEqual(set(store.rows), set(rows))
            mirrored = Store(curve, 4)
            for x, y, value in rows:
                mirrored[y, x] = value
            mirrored.curve_now = ~curve
            self.assertEqual([(y, x, value) for x, y, value in mirrored.rows], list(rows))

    def test_spans_of_all_rows(self):
        chance = random.Random(2)
        for curve in CURVES:
            store = Store(curve, 100)
            for _ in range(60):
                store[chance.randrange(2 ** 100), chance.randrange(2 ** 100)] = 1
            keys = Spans(*[(store.square_now[row[:2]], store.square_now[row[:2]]) for row in store])
            self.assertEqual((len(keys), keys.total), (len(store), len(store)))
            low, high = keys[0][0], keys[-1][1]
            self.assertEqual(store.rows[0][:2], store.square_now.place_of(low))
            self.assertEqual(store.rows[-1][:2], store.square_now.place_of(high))
            self.assertEqual(store.scan(Box.square(100)).rows, store.rows)


class Time(unittest.TestCase):
    def test_whole_scripts_are_quick(self):
        began = time.perf_counter()
        desk = Desk()
        desk.run("level 100", "maker ring", *[f"put {at * 10 ** 27} {at} 1" for at in range(500)])
        half = 2 ** 99
        for line in (f"scan 0 0 {half} {half}", f"scan 1 1 {2 * half - 2} {half}", "judge at most 9 of 4 4", "most 4 4", "page 16"):
            desk(line)
        self.assertRaises(TooMany, desk, "put 7 7 7")
        self.assertEqual(len(read_store(desk("show").replace(" | ", "\n"))), 500)
        self.assertLess(time.perf_counter() - began, 30)


if __name__ == "__main__":
    unittest.main()
