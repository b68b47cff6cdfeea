"""Rules: made, joined, asked of windows."""

import itertools
import unittest

from curveboxes import rules
from curveboxes.boxes import Box
from curveboxes.curves import Curve
from curveboxes.errors import BadMany, BadPlace, BadRule, TooMany, Unlike
from curveboxes.makers import cup, laced, ring, turning
from curveboxes.rules import AtLeast, AtMost, Begins, Both, Counting, Either, Follows, Joined, Not, Placing, Rule, Simple
from curveboxes.windows import Window, window_at
from tests.reference import boxes_in, cells, keys_of, some_rows, stretches
from tests.values import HUGE, NEGATIVE, OWN, STRANGE, raised

WRONG = [*STRANGE, *OWN, *HUGE, *NEGATIVE]
CURVES = [laced(), cup(), turning(), ring(), *[Curve(*rows) for rows in some_rows(4, 4)]]
A = AtMost(2, 2, 3)
B = Follows(2, 2, (0, 0), (1, 1))


def chained(many):
    """A rule of so many rules."""
    found = AtMost(2, 1, 1)
    while found.many + 2 <= many:
        found = found & AtLeast(2, 1, 2)
    return ~found if found.many < many else found


class Made(unittest.TestCase):
    def test_the_bases(self):
        bases = {
            Rule: (object,), Simple: (Rule,), Joined: (Rule,), Counting: (object,), Placing: (object,),
            AtMost: (Simple, Counting), AtLeast: (Simple, Counting), Follows: (Simple, Placing), Begins: (Simple, Placing),
            Both: (Joined,), Either: (Joined,), Not: (Joined,),
        }
        for kind, told in bases.items():
            self.assertEqual(kind.__bases__, told)
            self.assertEqual(kind.__module__, rules.__name__)

    def test_attributes(self):
        rule = AtMost(4, 3, 7)
        self.assertEqual((rule.width, rule.height, rule.number, rule.many), (4, 3, 7, 1))
        rule = AtLeast(number=0, height=16, width=1)
        self.assertEqual((rule.width, rule.height, rule.number, rule.many), (1, 16, 0, 1))
        rule = Follows(other=(1, 0), one=(2, 1), height=2, width=3)
        self.assertEqual((rule.width, rule.height, rule.one, rule.other, rule.many), (3, 2, (2, 1), (1, 0), 1))
        rule = Begins(one=(0, 0), width=1, height=1)
        self.assertEqual((rule.width, rule.height, rule.one, rule.many), (1, 1, (0, 0), 1))
        for kind in (Both, Either):
            for rule in (kind(A, B), kind(other=B, one=A)):
                self.assertEqual((rule.width, rule.height, rule.many), (2, 2, 3))
                self.assertIs(rule.one, A)
                self.assertIs(rule.other, B)
        rule = Not(one=kind(A, B))
        self.assertEqual((rule.width, rule.height, rule.many, rule.one), (2, 2, 4, kind(A, B)))

    def test_sizes_of_just_sixteen_places_and_more(self):
        for width, height in itertools.product(range(1, 17), repeat=2):
            for call, rest in ((AtMost, (1,)), (AtLeast, (1,)), (Begins, ((0, 0),))):
                if width * height <= 16:
                    self.assertEqual(call(width, height, *rest).width, width)
                else:
                    raised(self, TooMany, ("cells", 16), call, width, height, *rest)
        raised(self, TooMany, ("cells", 16), Follows, 4, 5, None, None)
        raised(self, TooMany, ("cells", 16), AtMost, 17 - 1, 2, None)

    def test_sizes_and_numbers_of_other_kinds(self):
        for value in [*WRONG, 17, 0]:
            for call, rest in ((AtMost, 1), (AtLeast, 1), (Begins, 1), (Follows, 2)):
                raised(self, BadMany, (value,), call, value, None, *[value] * rest)
                raised(self, BadMany, (value,), call, 16, value, *[value] * rest)
            if value != 0 or value is False:
                for call in (AtMost, AtLeast):
                    raised(self, BadMany, (value,), call, 2, 2, value)
        for number in range(17):
            self.assertEqual(AtMost(1, 1, number).number, number)

    def test_places(self):
        outside = [(-1, 0), (3, 0), (0, 2), (0, -1), (3, 2), (10 ** 61, 0), (0, True), (True, 0), [0, 0], (0,), (0, 0, 0), "00"]
        for value in [*WRONG, *outside]:
            raised(self, BadPlace, (value,), Begins, 3, 2, value)
            raised(self, BadPlace, (value,), Follows, 3, 2, value, value)
            raised(self, BadPlace, (value,), Follows, 3, 2, value, (0, 0))
            raised(self, BadPlace, (value,), Follows, 3, 2, (0, 0), value)
        for place in cells(0, 0, 3, 2):
            raised(self, BadPlace, (place,), Follows, 3, 2, place, place)
            self.assertEqual(Begins(3, 2, place).one, place)

    def test_what_is_no_rule(self):
        for value in [*WRONG, AtMost, str(A), Counting, Window(2, 2, (0,) * 4, ())]:
            for kind in (Both, Either):
                raised(self, BadRule, ("one",), kind, value, value)
                raised(self, BadRule, ("one",), kind, value, A)
                raised(self, BadRule, ("other",), kind, A, value)
                raised(self, BadRule, ("other",), kind, chained(30), value)
            raised(self, BadRule, ("one",), Not, value)
            raised(self, BadRule, ("other",), lambda: A & value)
            raised(self, BadRule, ("other",), lambda: A | value)
            raised(self, BadRule, ("other",), lambda: chained(30) | value)

    def test_unlike_sizes(self):
        for other in (AtMost(2, 1, 3), AtMost(1, 2, 3), AtMost(4, 1, 3), ~AtMost(1, 4, 3), chained(30)):
            for call in (Both, Either, lambda one, other: one & other, lambda one, other: one | other):
                raised(self, Unlike, ("size",), call, A, other)
                raised(self, Unlike, ("size",), call, other, A)

    def test_thirty_and_thirty_one_rules(self):
        for many in range(1, 31):
            self.assertEqual(chained(many).many, many)
        for call in (Both, Either, lambda one, other: one & other, lambda one, other: one | other):
            for one, other in ((29, 1), (1, 29), (15, 15), (30, 30)):
                raised(self, TooMany, ("rules", 30), call, chained(one), chained(other))
            for one, other in ((28, 1), (1, 28), (14, 15)):
                self.assertEqual(call(chained(one), chained(other)).many, 30)
        self.assertEqual(Not(chained(29)).many, 30)
        self.assertEqual((~chained(29)).many, 30)
        raised(self, TooMany, ("rules", 30), Not, chained(30))
        raised(self, TooMany, ("rules", 30), lambda: ~chained(30))

    def test_operators(self):
        self.assertEqual([A & B == Both(A, B), A | B == Either(A, B), ~A == Not(A)], [True] * 3)
        rule = A
        rule &= B
        self.assertEqual([rule == Both(A, B), A == AtMost(2, 2, 3)], [True, True])
        rule |= A
        self.assertEqual(rule, Either(Both(A, B), A))
        self.assertEqual(~~A == A, False)

    def test_equal(self):
        def made():
            one, other = AtMost(2, 2, 3), Follows(2, 2, (0, 0), (1, 1))
            return [
                one, other, AtLeast(2, 2, 3), AtMost(2, 2, 4), AtMost(2, 1, 3), AtMost(1, 2, 3), Follows(2, 2, (1, 1), (0, 0)),
                Begins(2, 2, (0, 0)), Begins(2, 2, (0, 1)), one & other, other & one, one | other, ~one, ~other, ~~one,
                (one & other) & one, one & (other & one), ~(one & other), ~one & other,
            ]

        for at, rule in enumerate(made()):
            for to, other in enumerate(made()):
                self.assertIs(rule == other, at == to)
                self.assertIs(rule != other, at != to)
            for value in [*WRONG, str(rule), AtMost]:
                self.assertIs(rule == value, False)


class Asked(unittest.TestCase):
    def test_against_the_keys_of_all_places(self):
        for curve, level in itertools.product(CURVES, (0, 1, 2, 3)):
            told = keys_of(curve.rows, level)
            for x, y, width, height in list(boxes_in(2 ** level))[::11]:
                if width * height > 16:
                    continue
                window = window_at(curve(level), Box(x, y, width, height))
                keys = {(a, b): told[x + a, y + b] for a, b in cells(0, 0, width, height)}
                many = len(stretches(keys.values()))
                for number in {0, 1, many - 1, many, many + 1, 16} - {17}:
                    self.assertIs(AtMost(width, height, number)(window), many <= number)
                    self.assertIs(AtLeast(width, height, number)(window), many >= number)
                for one in list(keys)[::3]:
                    self.assertIs(Begins(width, height, one)(window), keys[one] - 1 not in keys.values())
                    for other in keys:
                        if other != one:
                            self.assertIs(Follows(width, height, one, other)(window), keys[other] == keys[one] + 1)

    def test_joined_rules(self):
        yes, no = AtMost(2, 1, 2), AtMost(2, 1, 0)
        window = Window(2, 1, (0, 0), ())
        self.assertEqual([yes(window), no(window=window), (~yes)(window), (~no)(window)], [True, False, False, True])
        for one, other in itertools.product((yes, no), repeat=2):
            a, b = one is yes, other is yes
            self.assertEqual([Both(one, other)(window), Either(one, other)(window)], [a and b, a or b])
            self.assertIs((~(one & ~other) | other & one)(window), not (a and not b) or b and a)
        self.assertIs(chained(30)(window), True)
        self.assertIs(chained(29)(window), False)

    def test_follows_in_a_ring(self):
        window = Window(2, 1, (15, 0), ((0, 1), (1, 0)))
        self.assertIs(AtMost(2, 1, 0)(window), True)
        self.assertIs(Begins(2, 1, (0, 0))(window) or Begins(2, 1, (1, 0))(window), False)

    def test_what_is_no_window_of_its_size(self):
        good = (2, 2, (0, 1, 2, 15), ((0, 1), (1, 3), (3, 2)))
        self.assertIs(A(Window(*good)), True)
        wrong = [*WRONG, good, A, Window, Window(good, good, good, good), Window(4, 1, *good[2:]), Window(1, 4, *good[2:])]
        wrong += [
            Window(*good[:at], value, *good[at + 1:])
            for at in range(4) for value in [*WRONG, "2", 0, 3, 4] if value not in ((), ((0, 1), (2, 3)))
        ]
        wrong += [
            Window(2, 2, (0, 1, 2, 16), ()), Window(2, 2, (0, 1, 2, -1), ()), Window(2, 2, (0, 1, 2), ()),
            Window(2, 2, (0, 1, 2, 3, 4), ()), Window(2, 2, (0, 1, 2, True), ()), Window(2, 2, [0, 1, 2, 3], ()),
            Window(2, 2, good[2], ((1, 3), (0, 1))), Window(2, 2, good[2], ((0, 1), (0, 2))), Window(2, 2, good[2], ((0, 0),)),
            Window(2, 2, good[2], ((0, 4),)), Window(2, 2, good[2], ((0, 2), (1, 2))), Window(2, 2, good[2], [(0, 1)]),
        ]
        for value in wrong:
            for rule in (A, B, A & B, ~A | B, ~~A, Begins(2, 2, (0, 0)), AtLeast(2, 2, 1)):
                raised(self, BadRule, ("window",), rule, value)


if __name__ == "__main__":
    unittest.main()
