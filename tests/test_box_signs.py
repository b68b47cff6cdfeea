"""The signs between boxes, against the sets of their places."""

import itertools
import unittest

from curveboxes.boxes import Box
from curveboxes.errors import BadBox
from tests.values import HUGE, NEGATIVE, OWN, STRANGE, raised

SIDE = 2 ** 100
BOXES = [Box(*given) for given in itertools.product(range(3), range(3), range(1, 4), range(1, 3))]


def places(box):
    return set(box.cells()) if box is not None else set()


class Together(unittest.TestCase):
    def test_against_sets(self):
        for one, other in itertools.product(BOXES, repeat=2):
            ones, others = places(one), places(other)
            both = one & other
            self.assertIs(both is None, not ones & others)
            self.assertEqual(places(both), ones & others)
            self.assertIs(one <= other, ones <= others)
            self.assertIs(one < other, ones < others)
            self.assertIs(one >= other, ones >= others)
            self.assertIs(one > other, ones > others)
            self.assertIs(one == other, ones == others)

    def test_the_least_box_of_both(self):
        for one, other in itertools.product(BOXES, repeat=2):
            ones = places(one) | places(other)
            columns = [x for x, y in ones]
            rows = [y for x, y in ones]
            least = {(x, y) for x in range(min(columns), max(columns) + 1) for y in range(min(rows), max(rows) + 1)}
            self.assertEqual(places(one | other), least)

    def test_a_least_box_that_does_not_fit(self):
        wide = Box(1, 0, SIDE, 1)
        high = Box(0, 1, 1, SIDE)
        self.assertEqual(Box(0, 0, SIDE) | Box(0, 0, 1, SIDE), Box(0, 0, SIDE, SIDE))
        raised(self, BadBox, ("width",), lambda: wide | Box(0, 0))
        raised(self, BadBox, ("height",), lambda: Box(0, 0) | high)
        raised(self, BadBox, ("width",), lambda: wide | high)
        self.assertEqual([str(wide), str(high)], [f"1 0 {SIDE} 1", f"0 1 1 {SIDE}"])

    def test_far_boxes(self):
        far = Box(SIDE - 1, SIDE - 1, SIDE, SIDE)
        self.assertEqual(far & Box.square(100), Box(SIDE - 1, SIDE - 1))
        self.assertIsNone(far & Box.square(99))
        self.assertTrue(Box.square(99) < Box.square(100))

    def test_in_place(self):
        first = Box(1, 1, 3, 3)
        box = first
        box &= Box(2, 2, 5, 5)
        box |= Box(0, 2)
        box += (1, 1)
        box -= (0, 1)
        box <<= 2
        box >>= 1
        self.assertEqual(str(box), "2 4 8 4")
        self.assertEqual(str(first), "1 1 3 3")
        box = first
        box &= Box(9, 9)
        self.assertIsNone(box)

    def test_no_box_on_the_right(self):
        box = Box(0, 0)
        for value in [*STRANGE, *OWN[1:], *HUGE, *NEGATIVE, (0, 0, 1, 1), "0 0 1 1"]:
            raised(self, BadBox, ("other",), lambda: box & value)
            raised(self, BadBox, ("other",), lambda: box | value)
            raised(self, BadBox, ("other",), lambda: box <= value)
            raised(self, BadBox, ("other",), lambda: box < value)
            raised(self, BadBox, ("other",), lambda: box >= value)
            raised(self, BadBox, ("other",), lambda: box > value)

    def test_refused_in_place(self):
        box = first = Box(4, 4)
        with self.assertRaises(BadBox):
            box |= None
        with self.assertRaises(BadBox):
            box += (-5, 0)
        self.assertIs(box, first)
        self.assertEqual(str(box), "4 4 1 1")


if __name__ == "__main__":
    unittest.main()
