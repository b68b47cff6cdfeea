"""Chains: the boxes that consecutive keys fill."""

import unittest
from unittest import mock

from curveboxes.chains import Pages, pages, shows_pages, widest
from curveboxes.covers import Cover
from curveboxes.curves import Curve
from curveboxes.errors import BadCurve, BadMany, Endless, TooMany
from curveboxes.makers import cup, laced, plain, ring, turning
from tests.reference import CHAINS_2000, CHAINS_2001, FAR, NEAR, grown, some_rows
from tests.values import HUGE, NEGATIVE, OWN, STRANGE, raised

WRONG = [*STRANGE, *OWN, *HUGE, *NEGATIVE]
COUNTS = range(1, 17)
NUMBERS = {
    1: [1], 2: [1, 2], 3: [1, 2, 3], 4: [1, 2, 4], 5: [1, 2, 5], 6: [1, 2, 3, 6], 7: [1, 2, 3, 7], 8: [1, 2, 3, 8],
    9: [1, 2, 3, 9], 10: [1, 2, 3, 4, 10], 11: [1, 2, 3, 4, 11], 12: [1, 2, 3, 4, 12], 13: [1, 2, 4, 13],
    14: [1, 2, 4, 5, 14], 15: [1, 2, 4, 5, 15], 16: [1, 2, 4, 5, 16],
}


def chains_at(rows, level, number):
    """The chains of so many keys of a level by their first keys, and the sizes of their boxes."""
    told = sorted((key, place, state) for place, (key, state) in grown(rows, level).items())
    places = [place for _, place, _ in told]
    states = [state for _, _, state in told]
    moves = [(b[0] - a[0], b[1] - a[1]) for a, b in zip(places, places[1:])]
    for key in range(len(told) - number + 1):
        xs = [x for x, _ in places[key:key + number]]
        ys = [y for _, y in places[key:key + number]]
        chain = (tuple(states[key:key + number]), tuple(moves[key:key + number - 1]))
        yield chain, (max(xs) - min(xs) + 1, max(ys) - min(ys) + 1), key


def told_pages(curve, count, levels):
    """The pages as the levels up to a last one show them."""
    firsts = {}
    tables = {}
    for number in NUMBERS[count]:
        found = set()
        for level in range(levels + 1):
            for chain, size, key in chains_at(curve.rows, level, number):
                found.add(chain)
                if number == count:
                    firsts.setdefault(size, (level, key))
        tables[number] = tuple(sorted(found))
    return Pages(tuple(sorted((*size, *first) for size, first in firsts.items())), tables)


def with_table(paper, number, chains):
    return Pages(paper.shapes, {**paper.tables, number: chains})


class Found(unittest.TestCase):
    def test_against_the_keys_of_low_levels(self):
        for curve, counts in ((turning(), COUNTS), (ring(), (2, 5, 9, 16)), ((-ring()) << 1, (1, 3)), (~turning(), (4, 6))):
            for count in counts:
                self.assertEqual(pages(curve=curve, count=count), told_pages(curve, count, 6))

    def test_numbers_and_order_of_the_tables(self):
        for curve in (turning(), Curve.read(NEAR[0])):
            for count in COUNTS:
                found = pages(curve, count)
                self.assertEqual(sorted(found.tables), NUMBERS[count])
                for number, chains in found.tables.items():
                    self.assertIsInstance(chains, tuple)
                    self.assertEqual(list(chains), sorted(set(chains)))
                    for states, moves in chains:
                        self.assertEqual((len(states), len(moves)), (number, number - 1))
                self.assertEqual(list(found.shapes), sorted(set(found.shapes)))

    def test_deep_chains(self):
        # These curves have chains that occur at far levels alone: what is found at low ones must be among them.
        for text in NEAR:
            curve = Curve.read(text)
            for count in (2, 3, 5, 8):
                found, low = pages(curve, count), told_pages(curve, count, 5)
                for number, chains in low.tables.items():
                    self.assertLessEqual(set(chains), set(found.tables[number]))
                for shape in found.shapes:
                    if shape[2] < 6:
                        self.assertIn(shape, low.shapes)
                self.assertEqual({shape[:2] for shape in low.shapes} - {shape[:2] for shape in found.shapes}, set())
                self.assertIs(shows_pages(curve, count, found), True)

    def test_one_key(self):
        for curve in [laced(), cup(), turning(), *[Curve(*rows) for rows in some_rows(20, 9)]]:
            found = pages(curve, 1)
            self.assertEqual(found, Pages(((1, 1, 0, 0),), {1: tuple(((state,), ()) for state in range(len(curve)))}))
            self.assertIs(shows_pages(curve, 1, found), True)
            self.assertEqual(widest(curve, 1), ((1, 1),))

    def test_widest(self):
        self.assertEqual(widest(turning(), 3), ((1, 3), (2, 2), (3, 1)))
        for curve in (turning(), ring(), Curve.read(NEAR[0])):
            for count in COUNTS:
                sizes = [shape[:2] for shape in pages(curve, count).shapes]
                told = [size for size in sizes if not any(
                    other != size and other[0] >= size[0] and other[1] >= size[1] for other in sizes)]
                self.assertEqual(widest(curve=curve, count=count), tuple(told))


class Errors(unittest.TestCase):
    def test_in_their_order(self):
        for call, rest in ((pages, ()), (widest, ()), (shows_pages, (None,))):
            for value in [*WRONG, 0, 17]:
                if not isinstance(value, Curve):
                    raised(self, BadCurve, ("curve",), call, value, value, *rest)
                    raised(self, BadCurve, ("curve",), call, value, 2, *rest)
                raised(self, BadMany, (value,), call, laced(), value, *rest)
                raised(self, BadMany, (value,), call, turning(), value, *rest)
            for count in COUNTS[1:]:
                raised(self, Endless, (2, 7), call, laced(), count, *rest)
                raised(self, Endless, (2, 3), call, plain(0, 3, 2, 1), count, *rest)
                raised(self, Endless, (10, 221455), call, Curve.read(FAR), count, *rest)

    def test_two_thousand_chains_and_one_more(self):
        most, more = Curve.read(CHAINS_2000), Curve.read(CHAINS_2001)
        found = pages(most, 16)
        self.assertEqual(sum(map(len, found.tables.values())), 2000)
        self.assertIs(shows_pages(most, 16, found), True)
        raised(self, TooMany, ("chains", 2000), pages, more, 16)
        raised(self, TooMany, ("chains", 2000), widest, more, 16)
        self.assertIs(shows_pages(more, 16, found), False)
        with mock.patch("curveboxes.chains.CHAINS", 2001):
            beyond = pages(more, 16)
            self.assertIs(shows_pages(more, 16, beyond), True)
        self.assertEqual(sum(map(len, beyond.tables.values())), 2001)
        self.assertIs(shows_pages(more, 16, beyond), False)

    def test_levels(self):
        # No curve is known whose chains occur at levels above 100 alone: the last level is put lower here.
        curve = Curve.read(NEAR[2])
        for last, refused in ((20, True), (21, False)):
            with mock.patch("curveboxes.chains.LEVELS", last):
                if refused:
                    raised(self, TooMany, ("levels", last), pages, curve, 2)
                    raised(self, TooMany, ("levels", last), widest, curve, 2)
                else:
                    self.assertTrue(pages(curve, 2))
                raised(self, TooMany, ("chains", 2000), pages, Curve.read(CHAINS_2001), 16)

    def test_steps_that_grow_above_the_last_level(self):
        curve = Curve.read(FAR)
        with mock.patch("curveboxes.joints.LEVELS", 9), mock.patch("curveboxes.chains.LEVELS", 9):
            raised(self, TooMany, ("levels", 9), pages, curve, 2)
            self.assertTrue(pages(curve, 1))
            self.assertIs(shows_pages(curve, 2, pages(turning(), 2)), False)
        with mock.patch("curveboxes.joints.LEVELS", 10), mock.patch("curveboxes.chains.LEVELS", 10):
            raised(self, Endless, (10, 221455), pages, curve, 2)
            raised(self, Endless, (10, 221455), shows_pages, curve, 2, None)


class Shown(unittest.TestCase):
    def test_what_pages_tells(self):
        for curve in (turning(), ring(), -ring(), Curve.read(NEAR[0])):
            for count in COUNTS:
                found = pages(curve, count)
                self.assertIs(shows_pages(curve, count, found), True)
                self.assertIs(shows_pages(curve=curve, value=found, count=count % 16 + 1), False)
                if count > 1:
                    self.assertIs(shows_pages(turning() << 2, count, found), False)
        self.assertIs(shows_pages(turning(), 3, Pages((), {})), False)

    def test_chains_left_out_told_twice_or_exchanged(self):
        for curve, count in ((turning(), 3), (turning(), 1), (ring(), 5), (turning(), 16)):
            paper = pages(curve, count)
            for number, chains in paper.tables.items():
                for at in range(0, len(chains), 1 + len(chains) // 30):
                    for wrong in (
                        chains[:at] + chains[at + 1:], chains[:at] + chains[at:at + 1] + chains[at:],
                        (*chains[:at], chains[at - 1], *chains[at + 1:]) if len(chains) > 1 else (), list(chains),
                    ):
                        self.assertIs(shows_pages(curve, count, with_table(paper, number, wrong)), False)
                if len(chains) > 1:
                    self.assertIs(shows_pages(curve, count, with_table(paper, number, chains[::-1])), False)
                less = {key: paper.tables[key] for key in paper.tables if key != number}
                self.assertIs(shows_pages(curve, count, Pages(paper.shapes, less)), False)
            for more in (0, 6, 17, None, "1", (1, 2)):
                self.assertIs(shows_pages(curve, count, with_table(paper, more, ())), False)

    def test_chains_of_other_kinds(self):
        paper = pages(turning(), 2)
        chains = paper.tables[2]
        for at, (states, moves) in enumerate(chains):
            for chain in (
                [states, moves], (list(states), moves), (states, list(moves)), (states, [moves[0]]), (states, moves, ()),
                (states, (list(moves[0]),)), (states[:1], ()), (states * 2, moves), ((4, *states[1:]), moves),
                ((states[0], None), moves), (states, ((moves[0][0], 2),)), (states, ((*moves[0], 0),)), (states,),
                (tuple(bool(state) for state in states), moves), (states, ((bool(moves[0][0]), moves[0][1]),)),
            ):
                if chain != chains[at] or any(type(part) is bool for part in (*chain[0], *chain[1][0])):
                    wrong = (*chains[:at], chain, *chains[at + 1:])
                    self.assertIs(shows_pages(turning(), 2, with_table(paper, 2, wrong)), False)
        # These stand in the order, and what they lead to, read as chains, is there.
        for chain in (((3, 3), ()), ((3, 3), (chains[-1][1][0],) * 2), ((3, 4), ((0, 1),)), ((4, 0), ((0, 1),)), ((3,), ())):
            told = tuple(sorted([*chains, chain]))
            for count in (2, 3):
                self.assertIs(shows_pages(turning(), count, with_table(pages(turning(), count), 2, told)), False)
        first = pages(turning(), 1).tables[1]
        self.assertIs(shows_pages(turning(), 1, Pages(((1, 1, 0, 0),), {1: (*first, ((4,), ()))})), False)
        self.assertIs(shows_pages(turning(), 1, Pages(((1, 1, 0, 0),), {1: (*first, ((3,), ((0, 1),)))})), False)
        for key in (True, 1):
            self.assertIs(shows_pages(turning(), 1, Pages(((1, 1, 0, 0),), {key: first})), key is not True)
        self.assertIs(shows_pages(turning(), 1, Pages(((1, 1, 0, 0),), {1: (((False,), ()), *first[1:])})), False)

    def test_chains_that_do_not_occur(self):
        # The ring begins with a state that no other place has: the other chains are closed without it.
        paper = pages(ring(), 3)
        self.assertEqual(paper.tables[1][0], ((0,), ()))
        self.assertIs(shows_pages(ring(), 3, with_table(paper, 1, paper.tables[1][1:])), False)
        # With closed chains that do not occur among them tables are right, if they have no size that does not occur.
        more = dict(pages(turning(), 2).tables)
        self.assertIs(shows_pages(turning(), 2, with_table(pages(turning(), 2), 1, more[1])), True)
        self.assertIs(shows_pages(turning(), 2, with_table(pages(turning(), 2), 2, (*more[2], ((3, 3), ((1, 1),))))), False)
        # The ring's only such chain goes over a corner, as none of its others does; the near curve's have known sizes.
        for curve, told in ((ring(), False), (Curve.read(NEAR[0]), True)):
            paper = pages(curve, 2)
            chains = tuple(sorted([*paper.tables[2], extra_chain(curve)]))
            self.assertIs(shows_pages(curve, 2, with_table(paper, 2, chains)), told)

    def test_shapes(self):
        paper = pages(turning(), 3)
        shapes = paper.shapes
        self.assertEqual(shapes, ((1, 3, 2, 3), (2, 2, 1, 0), (3, 1, 3, 3)))

        def shown(*rows):
            return shows_pages(turning(), 3, Pages(rows, paper.tables))

        self.assertIs(shown(*shapes), True)
        # Any level and key at which a size occurs will do.
        self.assertIs(shown(shapes[0], (2, 2, 1, 1), shapes[2]), True)
        self.assertIs(shown(shapes[0], (2, 2, 100, 0), shapes[2]), True)
        self.assertIs(shown((1, 3, 4, 59), *shapes[1:]), turning_size(4, 59) == (1, 3))
        for wrong in (
            shapes[:2], shapes[1:], (), shapes[::-1], (*shapes, shapes[2]), (shapes[0], shapes[1], (2, 2, 1, 1), shapes[2]),
            (shapes[0], (2, 2, 0, 0), shapes[2]), (shapes[0], (2, 2, 1, 2), shapes[2]), (shapes[0], (2, 2, 1, -1), shapes[2]),
            (shapes[0], (2, 2, 101, 0), shapes[2]), (shapes[0], (2, 2, -1, 0), shapes[2]), (shapes[0], (2, 2, 2, 3), shapes[2]),
            (shapes[0], (2, 2, 1, False), shapes[2]), (shapes[0], (2, 2, True, 0), shapes[2]), (shapes[0], [2, 2, 1, 0], shapes[2]),
            (shapes[0], (2, 2, 1), shapes[2]), (shapes[0], (2, 2, 1, 0, 0), shapes[2]), ((1, 3, 2, 4), *shapes[1:]),
            (shapes[0], (2, 3, 2, 1), shapes[2]), ((True, 3, 2, 3), *shapes[1:]), (shapes[0], ("2", 2, 1, 0), shapes[2]),
        ):
            self.assertIs(shown(*wrong), False)
        self.assertIs(shows_pages(turning(), 3, Pages(list(shapes), paper.tables)), False)
        for value in WRONG:
            self.assertIs(shows_pages(turning(), 3, Pages(value, paper.tables)), False)
            self.assertIs(shows_pages(turning(), 3, Pages(shapes, value)), False)
            self.assertIs(shows_pages(turning(), 3, Pages((*shapes[:2], value), paper.tables)), False)
            self.assertIs(shows_pages(turning(), 3, with_table(paper, 3, value)), False)
            self.assertIs(shows_pages(turning(), 3, with_table(paper, 1, (value,))), False)

    def test_what_is_no_paper(self):
        paper = pages(turning(), 3)
        for value in [*WRONG, Cover(paper.shapes, paper.tables), (paper.shapes, paper.tables), Pages, Pages(paper.tables, paper.shapes)]:
            self.assertIs(shows_pages(turning(), 3, value), False)


def turning_size(level, key):
    places = [turning()(level).place_of(key + at) for at in range(3)]
    return tuple(max(p[at] for p in places) - min(p[at] for p in places) + 1 for at in (0, 1))


def extra_chain(curve):
    """A chain of two keys that does not occur, and leads to such as do or to itself."""
    found = pages(curve, 2).tables[2]
    for one in range(len(curve)):
        for other in range(len(curve)):
            for step in ((x, y) for x in (-1, 0, 1) for y in (-1, 0, 1)):
                (last, state), (first, after) = curve[one][3], curve[other][0]
                led = (2 * step[0] + first % 2 - last % 2, 2 * step[1] + first // 2 - last // 2)
                chain = ((one, other), (step,))
                if chain not in found and ((state, after), (led,)) in (*found, chain):
                    return chain
    return None


if __name__ == "__main__":
    unittest.main()
