"""Boxes: made, asked, moved, led, written, read, refused."""

import itertools
import unittest

from curveboxes.boxes import Box
from curveboxes.errors import BadBox, BadLevel, BadMany, BadText, TooMany
from tests.values import HUGE, NEGATIVE, OWN, STRANGE, raised

SIDE = 2 ** 100
WRONG = [*STRANGE, *OWN, *HUGE, *NEGATIVE]


def parts(box):
    return box.x, box.y, box.width, box.height


class Made(unittest.TestCase):
    def test_by_position_and_by_name(self):
        self.assertEqual(parts(Box(3, 4)), (3, 4, 1, 1))
        self.assertEqual(parts(Box(3, 4, 5)), (3, 4, 5, 1))
        self.assertEqual(parts(Box(3, 4, 5, 6)), (3, 4, 5, 6))
        self.assertEqual(parts(Box(height=6, width=5, y=4, x=3)), (3, 4, 5, 6))
        self.assertEqual(parts(Box(3, y=4, height=6)), (3, 4, 1, 6))

    def test_right_top_many(self):
        box = Box(3, 4, 5, 6)
        self.assertEqual((box.right, box.top, box.many), (7, 9, 30))
        far = Box(SIDE - 1, SIDE - 1, SIDE, SIDE)
        self.assertEqual((far.right, far.top, far.many), (2 * SIDE - 2, 2 * SIDE - 2, SIDE * SIDE))

    def test_just_within_the_bounds(self):
        for given in ((0, 0, 1, 1), (SIDE - 1, 0, 1, 1), (0, SIDE - 1, 1, 1), (0, 0, SIDE, 1), (0, 0, 1, SIDE)):
            self.assertEqual(parts(Box(*given)), given)

    def test_places_in_it(self):
        box = Box(1, 2, 3, 2)
        for x, y in itertools.product(range(-1, 6), repeat=2):
            self.assertIs((x, y) in box, 1 <= x <= 3 and 2 <= y <= 3)
        for value in [*WRONG, box, [1, 2], (1, 2, 3), (1,), "12", (1, None), (True, 2)]:
            self.assertIs(value in box, False)
        self.assertIs((True, 1) in Box(1, 1), False)

    def test_equal(self):
        self.assertTrue(Box(1, 2, 3, 4) == Box(1, 2, 3, 4))
        for other in (Box(0, 2, 3, 4), Box(1, 0, 3, 4), Box(1, 2, 1, 4), Box(1, 2, 3, 1), *WRONG, (1, 2, 3, 4), "1 2 3 4"):
            self.assertIs(Box(1, 2, 3, 4) == other, False)
            self.assertIs(Box(1, 2, 3, 4) != other, True)

    def test_square(self):
        self.assertEqual(Box.square(0), Box(0, 0))
        self.assertEqual(Box.square(3), Box(0, 0, 8, 8))
        self.assertEqual(Box.square(level=100), Box(0, 0, SIDE, SIDE))
        for value in (*WRONG, 101):
            raised(self, BadLevel, (value,), Box.square, value)

    def test_cells(self):
        self.assertEqual(list(Box(4, 7, 3, 2).cells()), [(4, 7), (5, 7), (6, 7), (4, 8), (5, 8), (6, 8)])
        self.assertEqual(list(Box(SIDE - 1, 0, 2).cells()), [(SIDE - 1, 0), (SIDE, 0)])
        box = Box(0, 0, 2, 2)
        self.assertEqual(list(zip(box.cells(), box.cells())), [(place, place) for place in box.cells()])
        walk = box.cells()
        self.assertEqual([next(walk), next(walk)], [(0, 0), (1, 0)])
        self.assertEqual(next(box.cells()), (0, 0))
        self.assertEqual(next(walk), (0, 1))

    def test_too_many_cells(self):
        for box in (Box(0, 0, 100, 100), Box(5, 5, 10000, 1), Box(5, 5, 1, 10000)):
            self.assertEqual(len(list(box.cells())), 10000)
        for box in (Box(0, 0, 10001), Box(0, 0, 1, 10001), Box(0, 0, 73, 137), Box.square(100)):
            raised(self, TooMany, ("cells", 10000), lambda one: next(one.cells()), box)


class Refused(unittest.TestCase):
    def test_each_argument(self):
        for value in WRONG:
            raised(self, BadBox, ("x",), Box, value, 0)
            raised(self, BadBox, ("y",), Box, 0, value)
            raised(self, BadBox, ("width",), Box, 0, 0, value)
            raised(self, BadBox, ("height",), Box, 0, 0, 1, value)

    def test_just_beyond_the_bounds(self):
        for value in (-1, SIDE):
            raised(self, BadBox, ("x",), Box, value, 0)
            raised(self, BadBox, ("y",), Box, 0, value)
        for value in (0, -1, SIDE + 1):
            raised(self, BadBox, ("width",), Box, 0, 0, value)
            raised(self, BadBox, ("height",), Box, 0, 0, 1, value)

    def test_the_first_wrong_one_is_told(self):
        names = ("x", "y", "width", "height")
        for wrong in itertools.product((False, True), repeat=4):
            if any(wrong):
                given = [None if is_wrong else 1 for is_wrong in wrong]
                raised(self, BadBox, (names[wrong.index(True)],), Box, *given)


class Moved(unittest.TestCase):
    def test_moved(self):
        box = Box(3, 4, 5, 6)
        self.assertEqual(parts(box + (2, -4)), (5, 0, 5, 6))
        self.assertEqual(parts(box - (3, -1)), (0, 5, 5, 6))
        self.assertEqual(parts(box + (SIDE - 4, 0)), (SIDE - 1, 4, 5, 6))
        self.assertEqual(parts(box), (3, 4, 5, 6))

    def test_moved_too_far(self):
        box = Box(3, 4, 5, 6)
        raised(self, BadBox, ("x",), lambda: box + (-4, 0))
        raised(self, BadBox, ("x",), lambda: box - (4, 5))
        raised(self, BadBox, ("y",), lambda: box - (3, 5))
        raised(self, BadBox, ("x",), lambda: box + (SIDE - 3, SIDE))
        raised(self, BadBox, ("y",), lambda: box + (0, SIDE - 4))
        raised(self, BadBox, ("x",), lambda: box + (HUGE[1], NEGATIVE[2]))

    def test_no_move(self):
        box = Box(3, 4)
        for value in [*WRONG, [1, 1], (1, True), (1, 1, 1)]:
            raised(self, BadBox, ("move",), lambda: box + value)
            raised(self, BadBox, ("move",), lambda: box - value)

    def test_led_against_places(self):
        for x, y, width, height in itertools.product(range(5), range(5), range(1, 5), range(1, 4)):
            box = Box(x, y, width, height)
            places = set(box.cells())
            for n in range(4):
                self.assertEqual(set((box >> n).cells()), {(a >> n, b >> n) for a, b in places})
                step = 2 ** n
                below = {(step * a + i, step * b + j) for a, b in places for i in range(step) for j in range(step)}
                self.assertEqual(set((box << n).cells()), below)
                self.assertEqual((box << n) >> n, box)

    def test_led_far(self):
        self.assertEqual(Box.square(100) >> 100, Box(0, 0))
        self.assertEqual(Box(0, 0) << 100, Box.square(100))
        self.assertEqual(Box(SIDE - 1, SIDE - 1, SIDE, SIDE) >> 100, Box(0, 0, 2, 2))
        self.assertEqual(Box(SIDE - 1, 5, SIDE, 2) >> 0, Box(SIDE - 1, 5, SIDE, 2))
        self.assertEqual(Box(SIDE - 1, 5, SIDE, 2) << 0, Box(SIDE - 1, 5, SIDE, 2))
        raised(self, BadBox, ("x",), lambda: Box(1, 1, 2, 2) << 100)
        raised(self, BadBox, ("y",), lambda: Box(0, 1, 2, 2) << 100)
        raised(self, BadBox, ("width",), lambda: Box(0, 0, 2, 2) << 100)
        raised(self, BadBox, ("height",), lambda: Box(0, 0, 1, 2) << 100)

    def test_no_number_of_levels(self):
        box = Box(0, 0)
        for value in [*WRONG, 101, -1]:
            raised(self, BadMany, (value,), lambda: box << value)
            raised(self, BadMany, (value,), lambda: box >> value)


class Texts(unittest.TestCase):
    def test_written_and_read(self):
        for box in (Box(0, 0), Box(10, 2, 30, 4), Box(SIDE - 1, SIDE - 1, SIDE, SIDE)):
            self.assertEqual(str(box), " ".join(map(str, parts(box))))
            self.assertEqual(Box.read(str(box)), box)
        self.assertEqual(parts(Box.read(text="7 8 9 10")), (7, 8, 9, 10))

    def test_words_that_cannot_stand(self):
        good = ["5", "6", "7", "8"]
        bad = ("", "-1", "+1", "01", "00", "1.0", "x", "1x", " ", "\n", "1\n", "1_0", str(SIDE + 1), "9" * 2000)
        for at, word in itertools.product(range(4), bad):
            words = [*good[:at], word, *good[at + 1:]]
            if " " not in word:
                raised(self, BadText, (0, at), Box.read, " ".join(words))
        raised(self, BadText, (0, 0), Box.read, f"{SIDE} {SIDE} 0 0")
        raised(self, BadText, (0, 1), Box.read, f"0 {SIDE} 0 0")
        raised(self, BadText, (0, 2), Box.read, "0 0 0 0")
        raised(self, BadText, (0, 3), Box.read, "0 0 1 0")

    def test_missing_and_too_many(self):
        raised(self, BadText, (0, 0), Box.read, "")
        for many in (1, 2, 3):
            raised(self, BadText, (0, many), Box.read, " ".join(["1"] * many))
        raised(self, BadText, (0, 4), Box.read, "1 1 1 1 1")
        raised(self, BadText, (0, 4), Box.read, "1 1 1 1 ")
        raised(self, BadText, (0, 4), Box.read, "1 1 1 1 x y")
        raised(self, BadText, (0, 0), Box.read, " 1 1 1 1")
        raised(self, BadText, (0, 2), Box.read, "1 1  1 1")

    def test_no_string(self):
        for value in [*WRONG, b"1 1 1 1"]:
            if not isinstance(value, str):
                raised(self, BadText, (0, 0), Box.read, value)


if __name__ == "__main__":
    unittest.main()
