"""Books: sizes with weights, and what curves cost for them."""

import itertools
import random
import unittest

from curveboxes.books import Book
from curveboxes.curves import Curve
from curveboxes.errors import BadBook, BadCurve, BadMany, BadText, TooMany
from curveboxes.judging import most_ranges
from curveboxes.makers import cup, laced, ring, turning
from tests.reference import LEVELS_101, WINDOWS_2001
from tests.values import HUGE, NEGATIVE, OWN, STRANGE, raised

WRONG = [*STRANGE, *OWN, *HUGE, *NEGATIVE]
ALL = [size for size in itertools.product(range(1, 17), repeat=2) if size[0] * size[1] <= 16]
NO_SIZES = [
    *WRONG, (0, 1), (1, 0), (17, 1), (1, 17), (4, 5), (16, 2), (16, 16), (-1, 1), (1, True), (True, 1), [1, 1], (1,), (1, 1, 1),
    ("1", 1), (1, None), "1x1", (10 ** 61, 1),
]
MOST = 10 ** 9


def weights(book):
    return {size: book[size] for size in book}


def some_book(chance, many=4, most=9):
    return Book(*[(chance.choice(ALL), chance.randrange(1, most + 1)) for _ in range(many)])


class Made(unittest.TestCase):
    def test_sizes_and_weights(self):
        book = Book(((2, 2), 1), ((2, 1), 3), ((2, 2), 2))
        self.assertEqual((len(book), list(book), weights(book)), (2, [(2, 1), (2, 2)], {(2, 1): 3, (2, 2): 3}))
        self.assertEqual((book[2, 2], book[(2, 1)], book[1, 1], book[16, 1]), (3, 3, 0, 0))
        self.assertIs(type(book[1, 1]), int)
        self.assertIs(bool(book), True)
        self.assertEqual([type(size) for size in book], [tuple, tuple])

    def test_none(self):
        book = Book()
        self.assertEqual((len(book), list(book), bool(book), str(book), book[1, 1]), (0, [], False, "none", 0))
        self.assertEqual(book, Book())

    def test_all_sizes_in_any_order(self):
        chance = random.Random(1)
        for _ in range(10):
            pairs = [(size, chance.randrange(1, MOST + 1)) for size in ALL for _ in range(2)]
            chance.shuffle(pairs)
            book = Book(*pairs)
            self.assertEqual(list(book), sorted(ALL))
            self.assertEqual(len(book), len(ALL))
            for size in ALL:
                self.assertEqual(book[size], sum(weight for one, weight in pairs if one == size))
                self.assertIs(size in book, True)

    def test_weights_of_one_and_of_a_milliard(self):
        book = Book(((1, 1), 1), ((1, 2), MOST), ((1, 2), MOST), ((1, 2), 1))
        self.assertEqual((book[1, 1], book[1, 2]), (1, 2 * MOST + 1))

    def test_the_first_wrong_pair(self):
        right = ((2, 2), 1)
        wrong = [
            *WRONG, (2, 2), [(2, 2), 1], ([2, 2], 1), ((2, 2), 0), ((2, 2), MOST + 1), ((2, 2), True), ((2, 2), -1), ((2, 2),),
            ((2, 2), 1, 1), ((2, 2), "1"), ((2, 2), None), (1, (2, 2)), ((2, 2), (1,)), Book(right),
        ]
        wrong += [(size, 1) for size in NO_SIZES]
        wrong += [((2, 2), value) for value in WRONG]
        for value in wrong:
            raised(self, BadBook, (0,), Book, value)
            raised(self, BadBook, (0,), Book, value, value)
            raised(self, BadBook, (0,), Book, value, right)
            raised(self, BadBook, (3,), Book, right, right, ((1, 1), MOST), value, right, value)

    def test_what_is_done_to_an_argument_later(self):
        pairs = [((2, 2), 1), ((1, 1), 2)]
        book = Book(*pairs)
        pairs.clear()
        self.assertEqual(weights(book), {(1, 1): 2, (2, 2): 1})


class Asked(unittest.TestCase):
    def test_sizes_in_it(self):
        book = Book(((2, 2), 1))
        for value in [*NO_SIZES, (2, 1), (1, 1), ((2, 2), 1), book]:
            self.assertIs(value in book, False)
        self.assertIs((2, 2) in book, True)
        self.assertIs((2, 2) in Book(), False)

    def test_weights_of_what_is_no_size(self):
        for book in (Book(), Book(((1, 1), 1), ((2, 2), 1))):
            for value in [*NO_SIZES, book, slice(0, 1)]:
                raised(self, BadBook, ("size",), lambda: book[value])

    def test_equality(self):
        one = Book(((2, 2), 3), ((1, 1), 1))
        self.assertIs(one == Book(((1, 1), 1), ((2, 2), 1), ((2, 2), 2)), True)
        self.assertIs(one != Book(((1, 1), 1), ((2, 2), 1), ((2, 2), 2)), False)
        for other in (Book(), Book(((2, 2), 3)), Book(((2, 2), 3), ((1, 1), 2)), Book(((2, 2), 3), ((1, 1), 1), ((1, 2), 1))):
            self.assertIs(one == other, False)
            self.assertIs(one != other, True)
        for value in [*WRONG, str(one), list(one), weights(one)]:
            self.assertIs(one == value, False)
            self.assertIs(value == one, False)


class Joined(unittest.TestCase):
    def test_sums(self):
        chance = random.Random(3)
        for _ in range(40):
            one, other = some_book(chance, chance.randrange(5)), some_book(chance, chance.randrange(5))
            told = {size: one[size] + other[size] for size in ALL if size in one or size in other}
            for found in (one + other, other + one):
                self.assertIs(type(found), Book)
                self.assertEqual((weights(found), list(found)), (told, sorted(told)))
        self.assertEqual(Book() + Book(), Book())

    def test_many_times(self):
        book = Book(((2, 2), 3), ((1, 1), MOST))
        for n in (1, 2, 7, MOST):
            self.assertEqual(weights(book * n), {(1, 1): MOST * n, (2, 2): 3 * n})
        self.assertEqual(Book() * MOST, Book())
        # Beyond what is made and read.
        great = book * MOST * MOST + book
        self.assertEqual(great[1, 1], MOST ** 3 + MOST)
        self.assertEqual(great.cost(laced()), MOST ** 3 + MOST + 4 * (3 * MOST ** 2 + 3))
        self.assertEqual(str(great), f"{MOST ** 3 + MOST}*1x1 {3 * MOST ** 2 + 3}*2x2")

    def test_in_place(self):
        one = other = Book(((2, 2), 3))
        one += Book(((1, 1), 1))
        self.assertEqual((str(one), str(other)), ("1*1x1 3*2x2", "3*2x2"))
        two = one
        two *= 5
        self.assertEqual((str(two), str(one)), ("5*1x1 15*2x2", "1*1x1 3*2x2"))

    def test_the_books_stay(self):
        one, other = Book(((2, 2), 3)), Book(((2, 2), 1), ((1, 1), 1))
        found = one + other
        found = found * 3
        self.assertEqual((str(one), str(other), str(found)), ("3*2x2", "1*1x1 1*2x2", "3*1x1 12*2x2"))

    def test_the_errors(self):
        book = Book(((2, 2), 3))
        for value in [*WRONG, ((2, 2), 3), "3*2x2"]:
            raised(self, BadBook, ("other",), lambda: book + value)
            raised(self, BadBook, ("other",), lambda: Book() + value)
            raised(self, BadMany, (value,), lambda: book * value)
            raised(self, BadMany, (value,), lambda: Book() * value)
        for value in (0, MOST + 1, -1, book):
            raised(self, BadMany, (value,), lambda: book * value)
        self.assertEqual(str(book), "3*2x2")


class Costs(unittest.TestCase):
    def test_the_sum_of_the_greatest_numbers(self):
        chance = random.Random(4)
        for curve in (laced(), cup(), turning(), ring()):
            for _ in range(6):
                book = Book(*[(size, chance.randrange(1, 99)) for size in chance.sample(ALL[:20], 5) if size[0] * size[1] < 13])
                told = sum(book[size] * most_ranges(curve, *size) for size in book)
                self.assertEqual((book.cost(curve), book.cost(curve=curve)), (told, told))
        self.assertEqual(Book().cost(turning()), 0)
        self.assertEqual(Book(((1, 1), MOST)).cost(turning()), MOST)

    def test_sums_and_multiples(self):
        chance = random.Random(5)
        small = [size for size in ALL if size[0] * size[1] <= 6]
        for curve in (laced(), turning()):
            one = Book(*[(size, chance.randrange(1, 99)) for size in chance.sample(small, 3)])
            other = Book(*[(size, chance.randrange(1, 99)) for size in chance.sample(small, 3)])
            self.assertEqual((one + other).cost(curve), one.cost(curve) + other.cost(curve))
            self.assertEqual((one * 7).cost(curve), 7 * one.cost(curve))

    def test_the_errors_of_cost(self):
        many, levels = Curve.read(WINDOWS_2001), Curve.read(LEVELS_101)
        for book in (Book(), Book(((4, 4), 1))):
            for value in WRONG:
                if not isinstance(value, Curve):
                    raised(self, BadCurve, ("curve",), book.cost, value)
        raised(self, TooMany, ("windows", 2000), Book(((4, 4), 1)).cost, many)
        raised(self, TooMany, ("windows", 2000), Book(((1, 1), 1), ((4, 4), 1)).cost, many)
        raised(self, TooMany, ("levels", 100), Book(((2, 1), 1)).cost, levels)
        self.assertEqual(Book(((1, 1), 4)).cost(many), 4)
        self.assertEqual(Book().cost(many), 0)

    def test_best(self):
        book = Book(((2, 2), 3), ((2, 1), 3))
        self.assertEqual(book.best(turning(), laced()), ((18, 0), (18, 1)))
        self.assertEqual(book.best(), ())
        curves = [ring(), laced(), cup(), laced(), turning(), -laced()]
        book = Book(((3, 3), 2), ((4, 1), 1), ((1, 4), 5))
        found = book.best(*curves)
        self.assertIs(type(found), tuple)
        self.assertEqual(found, tuple(sorted((book.cost(curve), at) for at, curve in enumerate(curves))))
        self.assertEqual(Book().best(*curves), tuple((0, at) for at in range(6)))

    def test_the_errors_of_best(self):
        many = Curve.read(WINDOWS_2001)
        for book in (Book(), Book(((4, 4), 1))):
            for value in WRONG:
                if not isinstance(value, Curve):
                    raised(self, BadCurve, (0,), book.best, value)
                    raised(self, BadCurve, (1,), book.best, many, value, laced(), value)
        raised(self, TooMany, ("windows", 2000), Book(((4, 4), 1)).best, laced(), many)
        raised(self, BadCurve, (0,), Book().best, [laced(), cup()])


class Texts(unittest.TestCase):
    def test_str_and_read(self):
        chance = random.Random(6)
        for many in (0, 1, 2, 5, 40):
            book = some_book(chance, many, MOST)
            text = str(book)
            found = Book.read(text=text)
            self.assertIs(type(found), Book)
            self.assertEqual((found, str(found), list(found)), (book, text, list(book)))
        whole = Book(*[(size, 7) for size in ALL])
        self.assertEqual(Book.read(str(whole)), whole)
        self.assertEqual(str(Book(((16, 1), 1), ((1, 16), 2), ((2, 3), MOST))), f"2*1x16 {MOST}*2x3 1*16x1")

    def test_weights_of_twenty_digits(self):
        for weight in (1, MOST, MOST + 1, 10 ** 19, 10 ** 20 - 1):
            self.assertEqual(Book.read(f"{weight}*2x2")[2, 2], weight)
            self.assertEqual(str(Book.read(f"{weight}*2x2")), f"{weight}*2x2")
        for weight in (0, 10 ** 20, 10 ** 4000, -1, "01", "", "+1", "1.0", " 1", "x", "\u0661"):
            raised(self, BadText, (0, 0), Book.read, f"{weight}*2x2")

    def test_what_is_no_string(self):
        for value in WRONG:
            if not isinstance(value, str):
                raised(self, BadText, (0, 0), Book.read, value)
        raised(self, BadText, (0, 0), Book.read, Book())

    def test_words_that_cannot_stand(self):
        for text, word in (
            ("", 0), (" ", 0), ("1*2x2 ", 1), (" 1*2x2", 0), ("1*2x2  1*3x1", 1), ("none none", 1), ("none 1*2x2", 1),
            ("1*2x2 none", 1), ("none ", 1), ("None", 0), ("1*2x2 1*2x2", 1), ("1*2x2 1*2x1", 1), ("1*1x3 1*2x2 1*2x1 1*0x0", 2),
            ("1*4x5", 0), ("1*1x1 1*16x2", 1), ("1*17x1", 0), ("1*0x1", 0), ("1*1x0", 0), ("1*2x02", 0), ("1*2", 0), ("2x2", 0),
            ("1*2x2x2", 0), ("1*2*2x2", 0), ("1x2*2", 0), ("1*2x2\n", 0), ("1*2x2\n1*3x1", 0), ("1*2X2", 0), ("1 * 2x2", 0),
            ("1*1x2 1*1x3 1*2x1 x", 3), ("1*1x2 1*1x1 x", 1), ("1*9x1 1*10x1 1*9x1", 2), ("-1*2x2", 0), ("1*-2x2", 0),
        ):
            raised(self, BadText, (0, word), Book.read, text)
        self.assertEqual(list(Book.read("1*9x1 1*10x1")), [(9, 1), (10, 1)])

    def test_words_left_out_put_in_exchanged(self):
        words = str(Book(((1, 1), 5), ((1, 2), 7), ((2, 2), 9), ((10, 1), 1))).split(" ")
        for at in range(4):
            self.assertEqual(len(Book.read(" ".join(words[:at] + words[at + 1:]))), 3)
            raised(self, BadText, (0, at + 1), Book.read, " ".join(words[:at + 1] + words[at:]))
            raised(self, BadText, (0, at), Book.read, " ".join(words[:at] + ["x"] + words[at:]))
        for at in range(3):
            mixed = [*words[:at], words[at + 1], words[at], *words[at + 2:]]
            raised(self, BadText, (0, at + 1), Book.read, " ".join(mixed))


if __name__ == "__main__":
    unittest.main()
