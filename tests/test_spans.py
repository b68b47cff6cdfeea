"""Sets of keys: made, asked, joined, written, read, and the signs between them."""

import itertools
import unittest

from curveboxes.errors import BadKey, BadMany, BadSpans, BadText
from curveboxes.spans import Spans
from tests.values import HUGE, NEGATIVE, OWN, STRANGE, raised

LAST = 4 ** 100 - 1
WRONG = [*STRANGE, *OWN, *HUGE, *NEGATIVE]
SIZE = 6


def of_keys(keys):
    return Spans(*[(key, key) for key in keys])


def subsets():
    return [{key for key in range(SIZE) if mask >> key & 1} for mask in range(2 ** SIZE)]


def keys_of(spans):
    return {key for low, high in spans for key in range(low, high + 1)}


class Made(unittest.TestCase):
    def test_stretches(self):
        for given, told in (
            ((), ()),
            (((3, 3),), ((3, 3),)),
            (((0, 1), (2, 3)), ((0, 3),)),
            (((2, 3), (0, 1)), ((0, 3),)),
            (((0, 1), (3, 4)), ((0, 1), (3, 4))),
            (((5, 9), (6, 7), (1, 2)), ((1, 2), (5, 9))),
            (((6, 7), (5, 9)), ((5, 9),)),
            (((5, 6), (5, 9), (5, 5)), ((5, 9),)),
            (((0, 4), (4, 8), (2, 9), (11, 11), (10, 10)), ((0, 11),)),
            (((1, 1), (1, 1)), ((1, 1),)),
            (((LAST, LAST), (0, 0)), ((0, 0), (LAST, LAST))),
            (((0, LAST), (7, 8)), ((0, LAST),)),
        ):
            spans = Spans(*given)
            self.assertEqual(spans.pairs, told)
            self.assertIsInstance(spans.pairs, tuple)

    def test_any_order_gives_the_same(self):
        pairs = ((0, 1), (2, 2), (4, 6), (5, 9), (12, 12))
        for order in itertools.permutations(pairs):
            self.assertEqual(Spans(*order).pairs, ((0, 2), (4, 9), (12, 12)))

    def test_the_first_wrong_pair_is_told(self):
        wrong = [*WRONG, [1, 2], (2, 1), (-1, 1), (0, LAST + 1), (LAST + 1, LAST + 1), (0, 1, 2), (True, 2), (0, True), (None, 3)]
        for value in wrong:
            raised(self, BadSpans, (0,), Spans, value)
            raised(self, BadSpans, (2,), Spans, (0, 1), (5, 6), value, (3, 2), value)


class Asked(unittest.TestCase):
    def test_length_and_truth(self):
        for spans, many in ((Spans(), 0), (Spans((0, 0)), 1), (Spans((0, 3), (4, 5), (7, 8)), 2)):
            self.assertEqual(len(spans), many)
            self.assertIs(bool(spans), many > 0)

    def test_iteration(self):
        spans = Spans((7, 8), (0, 3), (11, 11))
        self.assertEqual(list(spans), [(0, 3), (7, 8), (11, 11)])
        self.assertEqual([(one, other) for one in spans for other in spans], list(itertools.product(spans.pairs, repeat=2)))
        self.assertEqual(list(Spans()), [])

    def test_items_and_slices(self):
        spans = Spans((7, 8), (0, 3), (11, 11))
        for at in range(-3, 3):
            self.assertEqual(spans[at], spans.pairs[at])
        for at in (3, -4, 10 ** 30):
            with self.assertRaises(IndexError):
                spans[at]
        for low, high in itertools.product((None, -9, -2, -1, 0, 1, 2, 3, 9), repeat=2):
            self.assertEqual(spans[low:high], spans.pairs[low:high])
            self.assertIsInstance(spans[low:high], tuple)
        with self.assertRaises(IndexError):
            Spans()[0]

    def test_keys_in_it(self):
        spans = Spans((7, 8), (0, 3), (LAST, LAST))
        for key in range(-2, 12):
            self.assertIs(key in spans, key in (0, 1, 2, 3, 7, 8))
        self.assertIs(LAST in spans, True)
        self.assertIs(LAST + 1 in spans, False)
        for value in [*WRONG, (0, 3), (7, 8), "7"]:
            self.assertIs(value in spans, False)
        self.assertIs(0 in Spans(), False)

    def test_total(self):
        self.assertEqual(Spans().total, 0)
        self.assertEqual(Spans((7, 8), (0, 3), (8, 9)).total, 7)
        self.assertEqual(Spans((0, LAST)).total, 4 ** 100)

    def test_equal(self):
        spans = Spans((7, 8), (0, 3))
        self.assertTrue(spans == Spans((0, 1), (2, 3), (7, 7), (8, 8)))
        for other in [*WRONG, Spans(), Spans((0, 3)), Spans((0, 3), (7, 9)), spans.pairs, "0-3 7-8"]:
            self.assertIs(spans == other, False)
            self.assertIs(spans != other, True)

    def test_next_in(self):
        spans = Spans((7, 8), (2, 3))
        self.assertEqual([spans.next_in(key) for key in range(10)], [2, 2, 2, 3, 7, 7, 7, 7, 8, None])
        self.assertIsNone(spans.next_in(key=LAST))
        self.assertIsNone(Spans().next_in(0))
        self.assertEqual(Spans((LAST, LAST)).next_in(0), LAST)
        many = of_keys(range(0, 3000, 3))
        for key in range(0, 2998):
            self.assertEqual(many.next_in(key), -(-key // 3) * 3 if key <= 2997 else None)
        for value in [*WRONG, LAST + 1]:
            raised(self, BadKey, (value,), spans.next_in, value)

    def test_gaps(self):
        spans = Spans((7, 8), (2, 3), (10, 10), (LAST, LAST))
        told = [(4, 6), (9, 9), (11, LAST - 1)]
        self.assertEqual(list(spans.gaps()), told)
        self.assertEqual(list(zip(spans.gaps(), spans.gaps())), list(zip(told, told)))
        walk = spans.gaps()
        self.assertEqual(next(walk), (4, 6))
        self.assertEqual(list(spans.gaps()), told)
        self.assertEqual(next(walk), (9, 9))
        self.assertEqual(list(Spans((3, 4)).gaps()), [])
        self.assertEqual(list(Spans().gaps()), [])


class Signs(unittest.TestCase):
    def test_against_sets(self):
        for ones, others in itertools.product(subsets(), repeat=2):
            one, other = of_keys(ones), of_keys(others)
            self.assertEqual(keys_of(one | other), ones | others)
            self.assertEqual(keys_of(one & other), ones & others)
            self.assertEqual(keys_of(one - other), ones - others)
            self.assertIs(one <= other, ones <= others)
            self.assertIs(one < other, ones < others)
            self.assertIs(one >= other, ones >= others)
            self.assertIs(one > other, ones > others)
            self.assertIs(one == other, ones == others)

    def test_the_greatest_keys(self):
        whole = Spans((0, LAST))
        self.assertEqual((whole - Spans((0, 0), (LAST, LAST))).pairs, ((1, LAST - 1),))
        self.assertEqual((whole - whole).pairs, ())
        self.assertEqual((whole - Spans()).pairs, ((0, LAST),))
        self.assertEqual((Spans((LAST, LAST)) | Spans((0, LAST - 1))), whole)

    def test_in_place(self):
        first = Spans((0, 5), (9, 9))
        spans = first
        spans |= Spans((6, 7))
        spans &= Spans((2, 8))
        spans -= Spans((4, 4))
        self.assertEqual(str(spans), "2-3 5-7")
        self.assertEqual(str(first), "0-5 9")

    def test_no_spans_on_the_right(self):
        spans = Spans((0, 5))
        others = [value for value in WRONG if not isinstance(value, Spans)]
        for value in [*others, (0, 5), ((0, 5),), "0-5", {0, 1}]:
            raised(self, BadSpans, ("other",), lambda: spans | value)
            raised(self, BadSpans, ("other",), lambda: spans & value)
            raised(self, BadSpans, ("other",), lambda: spans - value)
            raised(self, BadSpans, ("other",), lambda: spans <= value)
            raised(self, BadSpans, ("other",), lambda: spans < value)
            raised(self, BadSpans, ("other",), lambda: spans >= value)
            raised(self, BadSpans, ("other",), lambda: spans > value)

    def test_refused_in_place(self):
        spans = first = Spans((0, 5))
        with self.assertRaises(BadSpans):
            spans |= None
        self.assertIs(spans, first)


class Joined(unittest.TestCase):
    def test_against_all_choices(self):
        for keys in subsets():
            spans = of_keys(keys)
            gaps = list(spans.gaps())
            for most in range(1, SIZE):
                kept = min(most - 1, len(gaps))
                choices = list(itertools.combinations(range(len(gaps)), kept))
                # The most left out; of such choices the first one keeps the earlier gaps.
                best = max(choices, key=lambda choice: sum(gaps[at][1] - gaps[at][0] + 1 for at in choice))
                whole = Spans((min(keys), max(keys))) if keys else Spans()
                told = whole - Spans(*[gaps[at] for at in best])
                self.assertEqual(spans.joined(most), told)

    def test_equal_gaps(self):
        spans = of_keys(range(0, 20, 2))
        self.assertEqual(str(spans.joined(3)), "0 2 4-18")
        self.assertEqual(str(Spans((0, 0), (2, 2), (5, 5), (7, 7), (10, 10)).joined(4)), "0 2 5-7 10")
        self.assertEqual(str(Spans((0, 0), (2, 2), (5, 5), (7, 7), (10, 10)).joined(2)), "0-2 5-10")

    def test_far_gaps(self):
        spans = Spans((0, 0), (5, 5), (LAST - 5, LAST - 5), (LAST, LAST))
        self.assertEqual(spans.joined(2).pairs, ((0, 5), (LAST - 5, LAST)))
        self.assertEqual(spans.joined(3).pairs, ((0, 0), (5, 5), (LAST - 5, LAST)))
        self.assertEqual(spans.joined(1).pairs, ((0, LAST),))

    def test_enough_stretches(self):
        spans = Spans((0, 0), (5, 5))
        for most in (2, 3, 10 ** 6):
            self.assertEqual(spans.joined(most=most), spans)
        self.assertEqual(Spans().joined(1), Spans())

    def test_no_such_number(self):
        for value in [*WRONG, 0, 10 ** 6 + 1]:
            raised(self, BadMany, (value,), Spans((0, 0), (5, 5)).joined, value)
            raised(self, BadMany, (value,), Spans().joined, value)


class Texts(unittest.TestCase):
    def test_written_and_read(self):
        for spans, text in (
            (Spans(), "none"), (Spans((0, 0)), "0"), (Spans((0, 1)), "0-1"),
            (Spans((0, 3), (7, 7), (9, 12)), "0-3 7 9-12"), (Spans((LAST, LAST)), str(LAST)),
            (Spans((5, LAST), (0, 3)), f"0-3 5-{LAST}"),
        ):
            self.assertEqual(str(spans), text)
            self.assertEqual(Spans.read(text), spans)
        for keys in subsets():
            self.assertEqual(Spans.read(str(of_keys(keys))), of_keys(keys))
        self.assertEqual(Spans.read(text="4").pairs, ((4, 4),))

    def test_words_that_cannot_stand(self):
        for text, at in (
            ("", 0), (" ", 0), ("None", 0), ("none none", 1), ("none 3", 1), ("none ", 1), ("3 none", 1), ("0-3 5-5", 1),
            ("5-4", 0), ("0-3 4", 1), ("0-3 4-6", 1), ("0-3 3", 1), ("0-3 2-9", 1), ("7 5", 1), ("7 7", 1), ("7 8", 1),
            ("7 9 11-12 13", 3), ("1  3", 1), ("1 ", 1), (" 1", 0), ("-1", 0), ("1-", 0), ("-", 0), ("1-2-3", 0),
            ("01", 0), ("1-02", 0), ("+1", 0), ("1,3", 0), ("1\n3", 0), ("1\n", 0), (str(LAST + 1), 0),
            (f"0-{LAST + 1}", 0), (f"{LAST} {LAST + 2}", 1), (f"0-{LAST} 3", 1), ("9" * 2000, 0), ("1 3 x 2", 2),
        ):
            raised(self, BadText, (0, at), Spans.read, text)

    def test_no_string(self):
        for value in WRONG:
            if not isinstance(value, str):
                raised(self, BadText, (0, 0), Spans.read, value)


if __name__ == "__main__":
    unittest.main()
