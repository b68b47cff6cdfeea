"""The lookers: which papers of judging are right."""

import itertools
import random
import unittest

from curveboxes.boxes import Box
from curveboxes.covers import Cover
from curveboxes.curves import Curve
from curveboxes.errors import BadCurve, BadMany, BadRule, TooMany
from curveboxes.judging import Always, Breach, Numbers, Twin, judge, never_more, numbers
from curveboxes.kin import Apart
from curveboxes.look_judging import shows_judge, shows_never_more, shows_numbers
from curveboxes.makers import cup, laced, plain, ring, turning
from curveboxes.ranges import count
from curveboxes.rules import AtLeast, AtMost, Begins, Follows
from curveboxes.windows import Window, refined, tables, window_at
from tests.reference import LEVELS_101, WINDOWS_2000, WINDOWS_2001, some_rows
from tests.values import HUGE, NEGATIVE, OWN, STRANGE, raised

CURVES = [laced(), cup(), turning(), ring(), plain(2, 0, 1, 3), *[Curve(*rows) for rows in some_rows(5, 3)]]
SIZES = ((1, 1), (2, 1), (1, 2), (2, 2), (3, 1), (3, 2))
FAR = 2 ** 100
ONE = Window(1, 1, (0,), ())
PAPERS = [Always({}), Breach(0, 0, 0), Numbers((), {}), Twin(ONE, ONE), Apart(1, 1), ONE, Cover(1, 2)]
WRONG = [*STRANGE, *OWN, *HUGE, *NEGATIVE]


def changed_tables(told):
    """Wrong tables that come of right ones by one change each."""
    for size in told:
        yield {key: part for key, part in told.items() if key != size}
        yield {**told, size: ()}
        yield {**told, size: []}
        yield {**told, size: None}
        yield {**told, size: {at: part for at, part in enumerate(told[size])}}
        yield {**told, size: "".join("x" for _ in told[size])}
        for at in range(len(told[size])):
            yield {**told, size: told[size][:at] + told[size][at + 1:]}
            for value in (None, ONE.states, (told[size][at],), [told[size][at]]):
                yield {**told, size: told[size][:at] + (value,) + told[size][at + 1:]}
        for key in (list(size)[0], (*size, 1), str(size), (str(size[0]), size[1])):
            yield {key if part == size else part: value for part, value in told.items()}
    yield {**told, (7, 2): ()}
    yield {**told, (1, 17): ()}
    yield {**told, None: ()}
    yield {}
    for value in (None, [], (), tuple(told), list(told.items()), tuple(told.values()), 0, ""):
        yield value


def changed_windows(window, states):
    """Windows that are none of so many states, and some that are."""
    width, height, seen, follows = window.width, window.height, window.states, window.follows
    last = len(seen) - 1
    for value in [*STRANGE, 0, 17, width + 1, -width, str(width)]:
        yield Window(value, height, seen, follows)
        if value != height or value is True:
            yield Window(width, value, seen, follows)
    yield Window(height + 1, width, seen, follows)
    for value in (list(seen), seen[:-1], (*seen, 0), seen[0], None, str(seen)):
        yield Window(width, height, value, follows)
    for at in range(len(seen)):
        for value in (states, 16, -1, True, False, None, str(seen[at]), (0,)):
            yield Window(width, height, (*seen[:at], value, *seen[at + 1:]), follows)
    for value in (list(follows), None, "", {}, ((0,),), ((0, 0),), ((0, last + 1),), ((-1, 0),), ((True, 0),), ([0, 1],)):
        if value != follows:
            yield Window(width, height, seen, value)
    if last >= 1:
        for value in (((0, 1), (0, 1)), ((1, 0), (0, 1)), ((0, 1, 0),), ((0, True),), ((0, 1), None)):
            yield Window(width, height, seen, value)
    if last >= 2:
        yield Window(width, height, seen, ((0, 1), (0, 2)))
        yield Window(width, height, seen, ((0, 2), (1, 2)))


class Judged(unittest.TestCase):
    def test_what_judge_tells_is_right(self):
        for curve, size in itertools.product(CURVES, SIZES):
            for number in range(7):
                for rule in (AtMost(*size, number), AtLeast(*size, number), Begins(*size, (0, 0))):
                    found = judge(curve, rule)
                    self.assertIs(shows_judge(curve, rule, found), True)
                    self.assertIs(shows_judge(value=found, rule=rule, curve=curve), True)
                    self.assertIs(shows_judge(curve, ~rule, found), False)

    def test_breaches_at_all_places_of_the_first_levels(self):
        for curve, (width, height) in itertools.product(CURVES[:6], SIZES):
            rule = AtMost(width, height, 2)
            for level, x, y in itertools.product(range(4), range(-1, 9), range(-1, 9)):
                fits = 0 <= x <= 2 ** level - width and 0 <= y <= 2 ** level - height
                told = fits and not rule(window_at(curve(level), Box(x, y, width, height)))
                self.assertIs(shows_judge(curve, rule, Breach(level, x, y)), told)

    def test_breaches_of_far_levels(self):
        rule = AtMost(2, 2, 3)
        for curve in CURVES:
            for x, y in ((FAR // 2 - 1, FAR // 2 - 1), (FAR - 2, FAR - 2), (0, 0), (FAR // 2 - 1, 3), (5, FAR // 2 - 1)):
                told = count(curve(100), Box(x, y, 2, 2)) > 3
                self.assertIs(shows_judge(curve, rule, Breach(100, x, y)), told)
            self.assertIs(shows_judge(curve, AtMost(2, 2, 0), Breach(100, FAR - 2, FAR - 2)), True)
            for x, y in ((FAR - 1, 0), (0, FAR - 1), (FAR, FAR)):
                self.assertIs(shows_judge(curve, AtMost(2, 2, 0), Breach(100, x, y)), False)
            for level in (101, 10 ** 61, -1):
                self.assertIs(shows_judge(curve, AtMost(2, 2, 0), Breach(level, 0, 0)), False)
        self.assertIs(shows_judge(laced(), AtMost(1, 1, 0), Breach(0, 0, 0)), True)
        self.assertIs(shows_judge(laced(), AtMost(2, 1, 0), Breach(0, 0, 0)), False)

    def test_breaches_of_other_kinds(self):
        rule = AtMost(2, 2, 0)
        for value in [*WRONG, *PAPERS]:
            self.assertIs(shows_judge(laced(), rule, Breach(value, 0, 0)), False)
            self.assertIs(shows_judge(laced(), rule, Breach(2, value, 1)), False)
            self.assertIs(shows_judge(laced(), rule, Breach(2, 1, value)), False)
        self.assertIs(shows_judge(laced(), rule, Breach(2, True, 1)), False)
        self.assertIs(shows_judge(laced(), rule, Breach(True, 0, 0)), False)

    def test_a_breach_of_a_curve_that_judge_refuses(self):
        curve = Curve.read(WINDOWS_2001)
        self.assertIs(shows_judge(curve, AtMost(4, 4, 0), Breach(2, 0, 0)), True)
        self.assertIs(shows_judge(curve, AtMost(4, 4, 16), Breach(2, 0, 0)), False)
        self.assertIs(shows_judge(curve, AtMost(4, 4, 16), Always({})), False)
        self.assertIs(shows_judge(Curve.read(LEVELS_101), AtMost(2, 1, 0), Breach(1, 0, 0)), True)
        # The tables of another curve with as many states are not closed for this one.
        self.assertIs(shows_judge(curve, AtMost(2, 2, 16), judge(laced(), AtMost(2, 2, 16))), False)

    def test_tables_in_any_order_and_told_twice(self):
        chance = random.Random(3)
        for curve in CURVES:
            rule = AtMost(2, 2, 4)
            told = judge(curve, rule).tables
            for kind in (list, tuple):
                mixed = {size: kind(chance.sample(told[size], len(told[size]))) for size in reversed(list(told))}
                self.assertIs(shows_judge(curve, rule, Always(mixed)), True)
                twice = {size: kind([*told[size], *told[size][::-1]]) for size in told}
                self.assertIs(shows_judge(curve, rule, Always(twice)), True)

    def test_one_change_each(self):
        for curve in (laced(), cup(), turning()):
            rule = AtMost(2, 2, 4)
            told = judge(curve, rule).tables
            for value in changed_tables(told):
                self.assertIs(shows_judge(curve, rule, Always(value)), False, value)

    def test_keys_of_other_kinds(self):
        for curve in CURVES:
            told = tables(curve, 2, 1)
            self.assertIs(shows_judge(curve, AtMost(2, 1, 2), Always(told)), True)
            for one in ((True, 1), (1, True), (True, True)):
                value = {one: told[1, 1], (2, 1): told[2, 1]}
                self.assertIs(shows_judge(curve, AtMost(2, 1, 2), Always(value)), False)
            value = {(1, 1): told[1, 1], (2, True): told[2, 1]}
            self.assertIs(shows_judge(curve, AtMost(2, 1, 2), Always(value)), False)

    def test_changed_windows(self):
        for curve in (laced(), turning()):
            rule = AtMost(2, 2, 4)
            told = judge(curve, rule).tables
            for size in told:
                for at, window in enumerate(told[size]):
                    for value in changed_windows(window, len(curve)):
                        # Put behind the right ones, so that the tables have all that they need.
                        self.assertIs(shows_judge(curve, rule, Always({**told, size: (*told[size], value)})), False)
                        parts = (*told[size][:at], value, *told[size][at + 1:])
                        self.assertIs(shows_judge(curve, rule, Always({**told, size: parts})), False)

    def test_windows_of_another_size_of_the_family(self):
        told = tables(laced(), 2, 2)
        for size, other in itertools.permutations(told, 2):
            value = {**told, size: told[size] + told[other]}
            self.assertIs(shows_judge(laced(), AtMost(2, 2, 4), Always(value)), False)

    def test_more_windows_than_occur(self):
        # All windows of (1, 1) and (2, 1), of whatever states and follows: these are closed.
        curve = turning()
        ones = tuple(Window(1, 1, (state,), ()) for state in range(4))
        follows = ((), ((0, 1),), ((1, 0),), ((0, 1), (1, 0)))
        twos = tuple(Window(2, 1, pair, follow) for pair in itertools.product(range(4), repeat=2) for follow in follows)
        value = Always({(1, 1): ones, (2, 1): twos})
        self.assertIs(shows_judge(curve, AtMost(2, 1, 2), value), True)
        # A window in a ring has no range, though none occurs.
        self.assertIs(shows_judge(curve, AtLeast(2, 1, 1), value), False)
        self.assertIs(shows_judge(curve, AtLeast(2, 1, 0), value), True)
        self.assertIs(shows_judge(curve, AtMost(2, 1, 1), value), False)
        # One that does not occur may lead to others, which are missed.
        told = tables(curve, 2, 1)
        seen = []
        for window in twos:
            led = [refined(curve, window, 1, y, 2, 1) for y in (0, 1)]
            closed = all(part in told[2, 1] or part == window for part in led)
            value = Always({**told, (2, 1): (*told[2, 1], window)})
            self.assertIs(shows_judge(curve, AtMost(2, 1, 2), value), closed)
            seen.append(closed)
        self.assertEqual(set(seen), {True, False})

    def test_two_thousand_windows_and_one_more(self):
        curve = Curve.read(WINDOWS_2000)
        told = tables(curve, 4, 4)
        self.assertIs(shows_judge(curve, AtMost(4, 4, 16), Always(told)), True)
        more = {**told, (1, 1): told[1, 1] + told[1, 1][:1]}
        self.assertIs(shows_judge(curve, AtMost(4, 4, 16), Always(more)), False)
        told = tables(laced(), 2, 1)
        for many in (1998, 1999):
            filled = {**told, (2, 1): [*told[2, 1], *[told[2, 1][0]] * (many - 2)]}
            self.assertEqual(sum(map(len, filled.values())), many + 1)
            self.assertIs(shows_judge(laced(), AtMost(2, 1, 2), Always(filled)), True)
        filled[1, 1] = told[1, 1] * 2
        self.assertIs(shows_judge(laced(), AtMost(2, 1, 2), Always(filled)), False)

    def test_what_is_no_such_paper(self):
        for value in [*WRONG, *PAPERS[2:], Always, Breach, tables(laced(), 2, 1), numbers(laced(), 2, 1)]:
            self.assertIs(shows_judge(laced(), AtMost(2, 1, 0), value), False)
            self.assertIs(shows_judge(laced(), AtMost(2, 1, 2), value), False)
            self.assertIs(shows_judge(laced(), AtMost(2, 1, 2), Always(value)), isinstance(value, dict) and (2, 1) in value)

    def test_the_errors_in_their_order(self):
        for value in WRONG:
            if not isinstance(value, Curve):
                raised(self, BadCurve, ("curve",), shows_judge, value, value, value)
                raised(self, BadCurve, ("curve",), shows_judge, value, AtMost(2, 1, 2), value)
            raised(self, BadRule, ("rule",), shows_judge, laced(), value, value)
            raised(self, BadRule, ("rule",), shows_judge, laced(), value, Breach(1, 0, 0))


class Counted(unittest.TestCase):
    def test_what_numbers_tells_is_right(self):
        for curve, size in itertools.product(CURVES, SIZES):
            found = numbers(curve, *size)
            self.assertIs(shows_numbers(curve, *size, found), True)
            self.assertIs(shows_numbers(value=found, height=size[1], width=size[0], curve=curve), True)
            for other in SIZES:
                if other != size:
                    self.assertIs(shows_numbers(curve, *other, found), False)

    def test_rows(self):
        told = numbers(laced(), 2, 2)
        rows = told.rows
        self.assertEqual(rows, ((1, 1, 0, 0), (2, 2, 0, 1), (3, 2, 1, 0), (4, 2, 1, 1)))
        right = (
            rows, ((1, 3, 2, 4), *rows[1:]), ((1, 1, 0, 0), (1, 3, 2, 4), *rows[1:]), (*rows, (4, 3, 1, 1)),
            ((1, 100, FAR - 2, FAR - 2), *rows[1:]), (*rows[:3], (4, 100, FAR // 2 - 1, FAR // 2 - 1)),
        )
        for value in right:
            self.assertIs(shows_numbers(laced(), 2, 2, Numbers(value, told.tables)), True)
        wrong = [
            rows[1:], rows[:3], (), rows[::-1], (*rows, rows[3]), (rows[0], rows[0], *rows[1:]), list(rows), (rows,),
            (*rows, (5, 2, 0, 0)), ((0, 0, 0, 0), *rows), ((1, 1, 0, 1), *rows[1:]), ((1, 0, 0, 0), *rows[1:]),
            ((1, 1, 1, 1), *rows[1:]), ((1, 101, 0, 0), *rows[1:]), ((1, 100, FAR - 1, 0), *rows[1:]),
            ((1, 3, 2, 4), (1, 1, 0, 0), *rows[1:]), ((1, -1, 0, 0), *rows[1:]), ((1, 2, -1, 0), *rows[1:]),
            ((2, 1, 0, 0), *rows[1:]), (*rows[:3], (4, 2, 0, 0)),
        ]
        wrong += [(*rows[:at], list(rows[at]), *rows[at + 1:]) for at in range(4)]
        wrong += [(*rows[:at], rows[at][:3], *rows[at + 1:]) for at in range(4)]
        wrong += [(*rows[:at], (*rows[at], 0), *rows[at + 1:]) for at in range(4)]
        for at, part, value in itertools.product(range(4), range(4), [*WRONG, *PAPERS]):
            wrong.append((*rows[:at], (*rows[at][:part], value, *rows[at][part + 1:]), *rows[at + 1:]))
        wrong += [((True, 1, 0, 0), *rows[1:]), ((1, True, 0, 0), *rows[1:]), ((1, 1, False, 0), *rows[1:])]
        for value in [*wrong, *WRONG, *PAPERS]:
            self.assertIs(shows_numbers(laced(), 2, 2, Numbers(value, told.tables)), False, value)

    def test_tables(self):
        told = numbers(turning(), 2, 2)
        for value in changed_tables(told.tables):
            self.assertIs(shows_numbers(turning(), 2, 2, Numbers(told.rows, value)), False)
        mixed = {size: list(parts)[::-1] * 2 for size, parts in told.tables.items()}
        self.assertIs(shows_numbers(turning(), 2, 2, Numbers(told.rows, mixed)), True)
        for curve in (laced(), cup(), turning() << 1):
            self.assertIs(shows_numbers(curve, 2, 2, told), False)

    def test_a_number_that_only_stands_in_the_tables(self):
        ones = tuple(Window(1, 1, (0,), ()) for _ in range(1))
        follows = ((), ((0, 1),), ((1, 0),))
        twos = tuple(Window(2, 1, (0, 0), follow) for follow in follows)
        value = {(1, 1): ones, (2, 1): twos}
        self.assertIs(shows_numbers(laced(), 2, 1, Numbers(((1, 1, 0, 0), (2, 2, 1, 0)), value)), True)
        value[2, 1] += (Window(2, 1, (0, 0), ((0, 1), (1, 0))),)
        self.assertIs(shows_numbers(laced(), 2, 1, Numbers(((1, 1, 0, 0), (2, 2, 1, 0)), value)), False)

    def test_two_thousand_windows_and_one_more(self):
        found = numbers(Curve.read(WINDOWS_2000), 4, 4)
        self.assertIs(shows_numbers(Curve.read(WINDOWS_2000), 4, 4, found), True)
        more = {**found.tables, (1, 1): (*found.tables[1, 1], ONE)}
        self.assertIs(shows_numbers(Curve.read(WINDOWS_2000), 4, 4, Numbers(found.rows, more)), False)
        self.assertIs(shows_numbers(Curve.read(WINDOWS_2001), 4, 4, found), False)

    def test_what_is_no_such_paper(self):
        told = numbers(laced(), 2, 1)
        for value in [*WRONG, *PAPERS, Always(told.tables), (told.rows, told.tables), told.rows, Numbers]:
            self.assertIs(shows_numbers(laced(), 2, 1, value), False)
        self.assertIs(shows_numbers(laced(), 2, 1, Numbers(told.tables, told.rows)), False)

    def test_the_errors_in_their_order(self):
        for value in [*WRONG, 0, 17]:
            if not isinstance(value, Curve):
                raised(self, BadCurve, ("curve",), shows_numbers, value, value, value, value)
            raised(self, BadMany, (value,), shows_numbers, laced(), value, None, value)
            raised(self, BadMany, (value,), shows_numbers, laced(), 16, value, value)
            raised(self, TooMany, ("cells", 16), shows_numbers, laced(), 4, 5, value)


class Compared(unittest.TestCase):
    def test_what_never_more_tells_is_right(self):
        for one, other in itertools.product(CURVES[:7], repeat=2):
            for size in SIZES[:4]:
                for more in (-1, 0, 1, 2):
                    found = never_more(one, other, *size, more)
                    self.assertIs(shows_never_more(one, other, *size, more, found), True)
                    if isinstance(found, Always):
                        self.assertIs(shows_never_more(one, other, *size, 16, found), True)
                        self.assertIs(shows_never_more(one, other, *size, -16, found), False)
                    else:
                        self.assertIs(shows_never_more(one, other, *size, 16, found), False)
                        self.assertIs(shows_never_more(one, other, *size, -16, found), True)

    def test_breaches_at_all_places_of_the_first_levels(self):
        one, other = laced(), turning()
        for (width, height), more in itertools.product(SIZES, (-1, 0, 1)):
            for level, x, y in itertools.product(range(4), range(-1, 9), range(-1, 9)):
                told = False
                if 0 <= x <= 2 ** level - width and 0 <= y <= 2 ** level - height:
                    box = Box(x, y, width, height)
                    told = count(one(level), box) > count(other(level), box) + more
                self.assertIs(shows_never_more(one, other, width, height, more, Breach(level, x, y)), told)

    def test_breaches_of_other_kinds(self):
        call = lambda *fields: shows_never_more(laced(), laced(), 2, 1, -16, Breach(*fields))
        self.assertIs(call(1, 0, 0), True)
        self.assertIs(call(100, FAR - 2, FAR - 1), True)
        self.assertIs(call(100, FAR - 1, FAR - 1), False)
        self.assertIs(call(101, 0, 0), False)
        for value in [*WRONG, *PAPERS]:
            self.assertIs(call(value, 0, 0), False)
            self.assertIs(call(2, value, 0), False)
            self.assertIs(call(2, 0, value), False)
        refused = Curve.read(WINDOWS_2001)
        self.assertIs(shows_never_more(refused, refused, 4, 4, -1, Breach(2, 0, 0)), True)

    def test_one_change_each(self):
        for one, other in ((laced(), cup()), (turning(), laced())):
            told = never_more(one, other, 2, 1, 1).tables
            call = lambda value: shows_never_more(one, other, 2, 1, 1, Always(value))
            self.assertIs(call(told), True)
            self.assertIs(call({size: list(parts)[::-1] * 2 for size, parts in told.items()}), True)
            for value in changed_tables(told):
                self.assertIs(call(value), False)
            for size in told:
                for at, twin in enumerate(told[size]):
                    wrong = [Twin(part, twin.other) for part in changed_windows(twin.one, len(one))]
                    wrong += [Twin(twin.one, part) for part in changed_windows(twin.other, len(other))]
                    wrong += [twin.one, (twin.one, twin.other), Twin(twin, twin), Always(twin), None]
                    for value in wrong:
                        self.assertIs(call({**told, size: (*told[size], value)}), False)

    def test_twins_of_unlike_sizes(self):
        told = never_more(laced(), cup(), 2, 2, 3).tables
        for size, other in itertools.permutations(told, 2):
            mixed = Twin(told[size][0].one, told[other][0].other)
            value = {**told, size: (*told[size], mixed)}
            self.assertIs(shows_never_more(laced(), cup(), 2, 2, 3, Always(value)), False)

    def test_exchanged_curves(self):
        told = never_more(laced(), turning(), 2, 1, 1)
        self.assertIs(shows_never_more(laced(), turning(), 2, 1, 1, told), True)
        self.assertIs(shows_never_more(turning(), laced(), 2, 1, 1, told), False)
        other = {size: tuple(Twin(twin.other, twin.one) for twin in parts) for size, parts in told.tables.items()}
        self.assertIs(shows_never_more(turning(), laced(), 2, 1, 1, Always(other)), True)
        self.assertIs(shows_never_more(laced(), turning(), 2, 1, 1, Always(other)), False)

    def test_windows_are_no_twins_and_twins_no_windows(self):
        twins, windows = never_more(laced(), laced(), 2, 1), judge(laced(), AtMost(2, 1, 2))
        self.assertIs(shows_never_more(laced(), laced(), 2, 1, 0, windows), False)
        self.assertIs(shows_judge(laced(), AtMost(2, 1, 2), twins), False)
        self.assertIs(shows_never_more(laced(), laced(), 2, 1, 0, twins), True)
        for value in [*WRONG, *PAPERS[2:], twins.tables, Numbers((), twins.tables)]:
            self.assertIs(shows_never_more(laced(), laced(), 2, 1, 0, value), False)
            self.assertIs(shows_never_more(laced(), laced(), 2, 1, 16, value), False)

    def test_two_thousand_twins_and_one_more(self):
        curve = Curve.read(WINDOWS_2000)
        told = never_more(curve, curve, 4, 4).tables
        self.assertIs(shows_never_more(curve, curve, 4, 4, 0, Always(told)), True)
        more = {**told, (1, 1): told[1, 1] + told[1, 1][:1]}
        self.assertIs(shows_never_more(curve, curve, 4, 4, 0, Always(more)), False)

    def test_the_errors_in_their_order(self):
        for value in WRONG:
            call = shows_never_more
            if not isinstance(value, Curve):
                raised(self, BadCurve, ("one",), call, value, value, value, value, value, value)
                raised(self, BadCurve, ("other",), call, laced(), value, value, value, value, value)
            raised(self, BadMany, (value,), call, laced(), cup(), value, None, None, value)
            raised(self, BadMany, (value,), call, laced(), cup(), 4, value, None, value)
            raised(self, TooMany, ("cells", 16), call, laced(), cup(), 4, 5, value, value)
            if value not in (-1, -2):
                raised(self, BadMany, (value,), call, laced(), cup(), 4, 4, value, value)
                raised(self, BadMany, (value,), call, laced(), cup(), 4, 4, value, Breach(1, 0, 0))
        for more in (-17, 17):
            raised(self, BadMany, (more,), shows_never_more, laced(), cup(), 2, 2, more, None)
        for more in (-16, 16):
            self.assertIs(shows_never_more(laced(), cup(), 2, 2, more, None), False)
        self.assertIs(shows_never_more(laced(), laced(), 2, 2, -1, Breach(1, 0, 0)), True)
        self.assertIs(shows_judge(laced(), Follows(2, 2, (1, 1), (0, 0)), Breach(1, 0, 0)), True)


if __name__ == "__main__":
    unittest.main()
