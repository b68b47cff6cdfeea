"""The known curves."""

import itertools
import unittest

from curveboxes.errors import BadCurve
from curveboxes.makers import cup, laced, plain, ring, turning
from tests.reference import orders
from tests.values import HUGE, NEGATIVE, OWN, STRANGE, raised


def distance(one, other):
    return abs(one[0] - other[0]) + abs(one[1] - other[1])


class Plain(unittest.TestCase):
    def test_all_orders(self):
        for order in itertools.permutations(range(4)):
            curve = plain(*order)
            self.assertEqual(curve.rows, (tuple((quarter, 0) for quarter in order),))

    def test_what_is_no_order(self):
        for order in (
            (), (0,), (0, 1, 2), (0, 1, 2, 3, 0), (0, 1, 2, 2), (1, 2, 3, 4), (-1, 0, 1, 2), (0, 1, 2, None),
            (0, True, 2, 3), (False, 1, 2, 3), ("0", "1", "2", "3"), ([0, 1, 2, 3],), ((0, 1, 2, 3),), "0123",
        ):
            raised(self, BadCurve, ("order",), plain, *order)
        for value in [*STRANGE, *OWN, *HUGE, *NEGATIVE]:
            raised(self, BadCurve, ("order",), plain, value, 1, 2, 3)
            raised(self, BadCurve, ("order",), plain, 0, 1, 2, value)
            raised(self, BadCurve, ("order",), plain, value)

    def test_laced_has_the_bits_by_turns(self):
        self.assertEqual(laced(), plain(0, 1, 2, 3))
        square = laced()(6)
        for x, y in itertools.product(range(0, 64, 5), range(0, 64, 3)):
            bits = sum(((x >> at & 1) << 2 * at) + ((y >> at & 1) << 2 * at + 1) for at in range(6))
            self.assertEqual(square[x, y], bits)

    def test_cup(self):
        self.assertEqual(cup(), plain(0, 2, 3, 1))


class Turning(unittest.TestCase):
    def test_goes_to_neighbours(self):
        for curve in (turning(), ring()):
            for level in range(7):
                places = list(curve(level).walk())
                self.assertEqual(len(set(places)), 4 ** level)
                self.assertEqual([distance(*pair) for pair in zip(places, places[1:])], [1] * (4 ** level - 1))

    def test_goes_to_neighbours_far_on(self):
        for curve, level in itertools.product((turning(), ring()), (31, 100)):
            square = curve(level)
            for low in (0, 4 ** (level - 1) - 9, 4 ** level // 2 - 5, 3 * 4 ** (level - 1) - 2, 4 ** level - 20):
                places = [square.place_of(key) for key in range(low, low + 20)]
                self.assertEqual([distance(*pair) for pair in zip(places, places[1:])], [1] * 19)

    def test_ring_comes_round(self):
        for level in [*range(1, 8), 50, 99, 100]:
            square = ring()(level)
            self.assertEqual(distance(square.place_of(0), square.place_of(square.last)), 1)

    def test_ring_is_made_of_turned_forms(self):
        self.assertEqual([quarter for quarter, _ in ring()[0]], [0, 2, 3, 1])
        forms = [orders(form.rows, 0, 5) for form in (turning() << n for n in range(4))]
        forms += [orders((~(turning() << n)).rows, 0, 5) for n in range(4)]
        for _, state in ring()[0]:
            self.assertIn(orders(ring().rows, state, 5), forms)

    def test_made_anew_each_time(self):
        for make in (laced, cup, turning, ring):
            self.assertEqual(make(), make())


if __name__ == "__main__":
    unittest.main()
