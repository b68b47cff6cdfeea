"""Joints: whether the places of consecutive keys are neighbours at all levels."""

import itertools
import random
import unittest
from unittest import mock

from curveboxes.curves import Curve
from curveboxes.errors import BadCurve, Endless, TooMany
from curveboxes.joints import Far, Near, is_edgewise, is_ring, joints, shows_joints, steps
from curveboxes.kin import Apart
from curveboxes.makers import cup, laced, plain, ring, turning
from tests.reference import FAR, NEAR, grown, places_of, some_rows
from tests.values import HUGE, NEGATIVE, OWN, STRANGE, raised

WRONG = [*STRANGE, *OWN, *HUGE, *NEGATIVE]
NEARBY = [turning(), ring(), ~turning(), -ring(), turning() << 1, *[Curve.read(text) for text in NEAR]]
GROWING = [laced(), cup(), plain(0, 3, 2, 1), Curve.read(FAR), *[Curve(*rows) for rows in some_rows(60)]]


def joints_of(rows, level):
    """For each key of a level but the last one the joint from its place to the next one."""
    told = sorted((key, place, state) for place, (key, state) in grown(rows, level).items())
    return [
        (one[2], other[2], other[1][0] - one[1][0], other[1][1] - one[1][1]) for one, other in zip(told, told[1:])
    ]


def spoiled():
    """Curves like those that go to neighbours, but for one state."""
    chance = random.Random(8)
    for at in range(60):
        rows = [list(row) for row in Curve.read(NEAR[at % 3])]
        state, digit = chance.randrange(len(rows)), chance.randrange(4)
        rows[state][digit] = (rows[state][digit][0], chance.randrange(len(rows)))
        yield Curve(*rows)


def far_ones(found):
    return [key for key, joint in enumerate(found) if max(abs(joint[2]), abs(joint[3])) > 1]


def exchanged(rows, at, row):
    return (*rows[:at], row, *rows[at + 1:])


class Found(unittest.TestCase):
    def test_all_joints_of_near_curves(self):
        for curve in NEARBY:
            told = set()
            for level in range(7):
                told.update(joints_of(curve.rows, level))
            found = joints(curve).joints
            self.assertEqual(joints(curve), Near(found))
            self.assertIsInstance(found, tuple)
            self.assertEqual(list(found), sorted(set(found)))
            self.assertLessEqual(told, set(found))
            if len(curve) < 6:
                self.assertEqual(told, set(found))

    def test_deep_joints(self):
        # This curve has joints that occur at the level 21 for the first time.
        curve = Curve.read(NEAR[2])
        told = set()
        for level in range(7):
            told.update(joints_of(curve.rows, level))
        self.assertLess(len(told), len(joints(curve).joints))
        left = set(joints(curve).joints) - told
        square = curve(21)
        key = 4 ** 14
        met = set()
        while key < square.last:
            # Joints of such levels stand at the ends of great blocks.
            place, after = square.place_of(key - 1), square.place_of(key)
            met.add((square.state_at(*place), square.state_at(*after), after[0] - place[0], after[1] - place[1]))
            key += 4 ** 14
        self.assertTrue(met & left)
        self.assertLessEqual(met, set(joints(curve).joints))

    def test_the_first_far_step(self):
        levels = []
        for curve in [*GROWING[:3], *GROWING[4:], *spoiled()]:
            found = joints(curve)
            for level in range(6):
                keys = far_ones(joints_of(curve.rows, level))
                if keys:
                    self.assertEqual(found, Far(level, keys[0]))
                    self.assertEqual([type(found.level), type(found.key)], [int, int])
                    levels.append(level)
                    break
            else:
                self.assertIs(bool(found) or found.level > 5, True)
        for level in (2, 3, 4, 5):
            self.assertGreater(levels.count(level), 3)

    def test_a_far_step_at_a_far_level(self):
        curve = Curve.read(FAR)
        self.assertEqual(joints(curve), Far(10, 221455))
        for level in range(8):
            self.assertEqual(far_ones(joints_of(curve.rows, level)), [])
        for level in (8, 9, 10):
            places = itertools.islice(curve(level).walk(), 221456)
            far = [key for key, pair in enumerate(itertools.pairwise(places)) if not near(*pair)]
            self.assertEqual(far, [])
        self.assertFalse(near(curve(10).place_of(221455), curve(10).place_of(221456)))
        raised(self, Endless, (10, 221455), steps, curve)

    def test_a_level_above_the_last_one(self):
        # No curve is known whose steps grow at levels above 100 alone: the last level is put lower here.
        curve = Curve.read(FAR)
        with mock.patch("curveboxes.joints.LEVELS", 9):
            raised(self, TooMany, ("levels", 9), joints, curve)
            raised(self, TooMany, ("levels", 9), steps, curve)
            self.assertIs(is_edgewise(curve), False)
            self.assertEqual(joints(laced()), Far(2, 7))
        with mock.patch("curveboxes.joints.LEVELS", 10):
            self.assertEqual(joints(curve), Far(10, 221455))

    def test_steps(self):
        self.assertEqual(steps(turning()), ((-1, 0), (0, -1), (0, 1), (1, 0)))
        for curve in NEARBY:
            told = sorted({joint[2:] for joint in joints(curve=curve).joints})
            self.assertEqual(steps(curve=curve), tuple(told))
        self.assertEqual(len(steps(NEARBY[-1])), 8)
        raised(self, Endless, (2, 7), steps, laced())
        raised(self, Endless, (2, 3), steps, plain(0, 3, 2, 1))

    def test_edgewise(self):
        for curve in NEARBY[:5]:
            self.assertIs(is_edgewise(curve=curve), True)
        for curve in [*NEARBY[5:], *GROWING[:4]]:
            self.assertIs(is_edgewise(curve), False)
        for curve in GROWING[4:]:
            told = all(abs(x) + abs(y) == 1 for _, _, x, y in joints_of(curve.rows, 5))
            self.assertIs(is_edgewise(curve), told and bool(joints(curve)))

    def test_rings(self):
        for curve in [*NEARBY, *GROWING]:
            told = True
            for level in range(1, 31):
                square = curve(level)
                told = told and near(square.place_of(0), square.place_of(square.last))
            self.assertIs(is_ring(curve=curve), told)
        self.assertIs(is_ring(ring()), True)
        self.assertIs(is_ring(turning()), False)

    def test_rings_that_come_apart_late(self):
        # The last place goes to the right at each level; from the level 15 on the first place does so, too.
        rows = [[(0, at + 1), (1, 15), (2, 15), (3, 15)] for at in range(14)]
        rows += [[(0, 14), (1, 15), (2, 15), (3, 15)], [(0, 15), (1, 15), (2, 15), (3, 15)]]
        self.assertIs(is_ring(Curve(*rows)), False)

    def test_what_is_no_curve(self):
        for value in WRONG:
            if not isinstance(value, Curve):
                for call in (joints, steps, is_edgewise, is_ring):
                    raised(self, BadCurve, ("curve",), call, value)
                raised(self, BadCurve, ("curve",), shows_joints, value, value)
                raised(self, BadCurve, ("curve",), shows_joints, curve=value, value=Near(()))


def near(one, other):
    return max(abs(one[0] - other[0]), abs(one[1] - other[1])) <= 1


class Shown(unittest.TestCase):
    def test_what_joints_tells(self):
        for curve in [*NEARBY, *GROWING]:
            self.assertIs(shows_joints(curve=curve, value=joints(curve)), True)
            self.assertIs(shows_joints(turning(), joints(curve)), joints(curve) == joints(turning()))

    def test_a_joint_left_out_told_twice_or_exchanged(self):
        for curve in (turning(), ring(), NEARBY[5]):
            rows = joints(curve).joints
            for at in range(len(rows)):
                self.assertIs(shows_joints(curve, Near(rows[:at] + rows[at + 1:])), False)
                self.assertIs(shows_joints(curve, Near(rows[:at] + rows[at:at + 1] + rows[at:])), False)
                self.assertIs(shows_joints(curve, Near(exchanged(rows, at, rows[at - 1]))), False)
            self.assertIs(shows_joints(curve, Near(rows[::-1])), False)
            self.assertIs(shows_joints(curve, Near(rows[1:2] + rows[:1] + rows[2:])), False)

    def test_other_kinds(self):
        rows = joints(turning()).joints
        for value in (list(rows), tuple([list(row) for row in rows]), dict.fromkeys(rows), rows[0], (rows,), str(rows)):
            self.assertIs(shows_joints(turning(), Near(value)), False)
        for at in range(len(rows)):
            for part in range(4):
                kind = {0: False, 1: True, -1: "-1", 2: None, 3: "3"}[rows[at][part]]
                row = (*rows[at][:part], kind, *rows[at][part + 1:])
                self.assertIs(shows_joints(turning(), Near(exchanged(rows, at, row))), False)
        for value in WRONG:
            self.assertIs(shows_joints(turning(), value), False)
            self.assertIs(shows_joints(turning(), Near(value)), False)
            self.assertIs(shows_joints(turning(), Near((value,))), False)
            self.assertIs(shows_joints(turning(), Near((*rows, value))), False)
        for value in (rows, Near, Apart(1, 1), Far(rows, rows), Near(Near(rows))):
            self.assertIs(shows_joints(turning(), value), False)

    def test_joints_beyond_the_curve(self):
        rows = joints(turning()).joints
        for row in ((4, 0, 0, 1), (0, 4, 1, 0), (-1, 0, 0, 1), (0, 0, 2, 0), (0, 0, 0, -2), (0, 0, 10 ** 61, 0), (0, 0, 1), ()):
            self.assertIs(shows_joints(turning(), Near(tuple(sorted([*rows, row])))), False)

    def test_more_joints_than_occur(self):
        for curve in (turning(), ring(), NEARBY[5]):
            rows = joints(curve).joints
            found = 0
            for row in itertools.product(range(len(curve)), range(len(curve)), (-1, 0, 1), (-1, 0, 1)):
                led = [row]
                while led[-1] not in led[:-1] and max(map(abs, led[-1][2:])) < 2:
                    led.append(led_on(curve, led[-1]))
                is_closed = max(map(abs, led[-1][2:])) < 2
                # With all that it leads to it may stand there, alone only if that is there.
                more = tuple(sorted({*rows, *led}))
                self.assertIs(shows_joints(curve, Near(more)), is_closed)
                alone = tuple(sorted({*rows, row}))
                self.assertIs(shows_joints(curve, Near(alone)), led_on(curve, row) in alone)
                found += is_closed and row not in rows
            self.assertEqual(found, {4: 0, 5: 1, 14: 128}[len(curve)])

    def test_a_far_step_of_any_level(self):
        for curve in (laced(), cup(), turning(), Curve.read(FAR)):
            for level in range(5):
                told = far_ones(joints_of(curve.rows, level))
                for key in range(-1, 4 ** level + 1):
                    self.assertIs(shows_joints(curve, Far(level, key)), key in told)
        for level in (2, 10, 99, 100):
            self.assertIs(shows_joints(laced(), Far(level, 2 * 4 ** (level - 1) - 1)), True)
            self.assertIs(shows_joints(laced(), Far(level, 4 ** level - 2)), False)
            self.assertIs(shows_joints(laced(), Far(level, 4 ** level - 1)), False)
            self.assertIs(shows_joints(turning(), Far(level, 2 * 4 ** (level - 1) - 1)), False)
        for value in [*WRONG, 101, 0]:
            self.assertIs(shows_joints(laced(), Far(value, 7)), False)
            self.assertIs(shows_joints(laced(), Far(2, value)), False)
        self.assertIs(shows_joints(laced(), Far(2, 7)), True)
        self.assertIs(shows_joints(laced(), Apart(2, 7)), False)
        self.assertIs(shows_joints(laced(), Far(7, 2)), False)


def led_on(curve, joint):
    """The joint a level on, by the definition."""
    (last, state), (first, after) = curve[joint[0]][3], curve[joint[1]][0]
    return state, after, 2 * joint[2] + first % 2 - last % 2, 2 * joint[3] + first // 2 - last // 2


if __name__ == "__main__":
    unittest.main()
