"""Joints: whether the places of consecutive keys are neighbours, at all levels."""

from curveboxes.checks import LEVELS, is_between, is_integer, is_level
from curveboxes.errors import Endless, TooMany
from curveboxes.needs import need_curve
from curveboxes.orders import ascending, is_ascending
from curveboxes.papers import kept
from curveboxes.runs import START, are_near, chains_on, is_near, led, ways_of

# A joint is the chain of two keys; those of single keys lead to all of them.
NUMBERS = (1, 2)
# The way from two places to the last quarter of the first one and the first quarter of the other one.
ACROSS = (2, 3)


class Near:
    """All steps go to neighbours, also over corners: these are the joints."""

    def __init__(self, joints):
        self.joints = kept(joints)

    def __eq__(self, other):
        return isinstance(other, Near) and self.joints == other.joints


class Far:
    """The step from a key of a level does not go to a neighbour."""

    def __init__(self, level, key):
        self.level = kept(level)
        self.key = kept(key)

    def __bool__(self):
        return False

    def __eq__(self, other):
        return isinstance(other, Far) and self.level == other.level and self.key == other.key


def joints(curve):
    """A Near with all joints of all levels, or a Far with the least level and key of a greater step."""
    need_curve(curve, "curve")
    found = searched(curve)
    if isinstance(found, Far) and found.level > LEVELS:
        raise TooMany("levels", LEVELS)
    return found


def searched(curve):
    """What `joints` tells, also of levels above the last one that squares have."""
    found = {START: True}
    layer = {START: 0}
    ways = ways_of(NUMBERS)
    level = 0
    while layer:
        level += 1
        layer = chains_on(curve, layer, ways, found)
        keys = [int(key) for chain, key in layer.items() if not are_near(chain[1])]
        if keys:
            return Far(level, min([int(key) for key in keys]))
        for chain in layer:
            found[chain] = True
    rows = ascending([joint_of(chain) for chain in found if chain[1]])
    return Near(tuple(rows))


def joint_of(chain):
    """The joint that a chain of two keys is."""
    return chain[0] + chain[1][0]


def chain_of(joint):
    """The chain of two keys that a joint is."""
    return joint[:2], (joint[2:],)


def steps(curve):
    """The ascending tuple of the steps of all levels."""
    found = joints(curve)
    if isinstance(found, Far):
        raise Endless(found.level, found.key)
    return tuple(ascending([joint[2:] for joint in found.joints]))


def is_edgewise(curve):
    """Whether each step of each level goes along a row or a column to a neighbour."""
    need_curve(curve, "curve")
    found = searched(curve)
    return isinstance(found, Near) and all([abs(joint[2]) + abs(joint[3]) == 1 for joint in found.joints])


def is_ring(curve):
    """Whether at each level from 1 on the places of the last and of the first key are neighbours."""
    need_curve(curve, "curve")
    joint = (0, 0, 0, 0)
    seen = {}
    while is_near(joint[2:]) and joint not in seen:
        seen[joint] = True
        joint = across(curve, joint)
    return joint in seen


def across(curve, joint):
    """The joint that a joint leads to a level on."""
    return joint_of(led(curve, chain_of(joint), [ACROSS])[0][1])


def shows_joints(curve, value):
    """Whether any value is a Near with what shows that all steps are near, or a Far that is right."""
    need_curve(curve, "curve")
    if isinstance(value, Far):
        return shows_far(curve, value)
    if not isinstance(value, Near) or not isinstance(value.joints, tuple):
        return False
    if not all([is_joint(curve, joint) for joint in value.joints]) or not is_ascending(value.joints):
        return False
    return has_all_led(curve, value.joints)


def shows_far(curve, value):
    """Whether a Far tells a level and a key at which the next key's place is no neighbour."""
    if not is_level(value.level):
        return False
    square = curve(value.level)
    if not is_between(value.key, 0, square.last - 1):
        return False
    place = square.place_of(value.key)
    after = square.place_of(value.key + 1)
    return not is_near((after[0] - place[0], after[1] - place[1]))


def is_joint(curve, value):
    """Whether any value is a tuple of two states of the curve and a step to a neighbour."""
    if not isinstance(value, tuple) or len(value) != 4 or not all([is_integer(part) for part in value]):
        return False
    last = len(curve) - 1
    return is_between(value[0], 0, last) and is_between(value[1], 0, last) and is_near(value[2:])


def has_all_led(curve, rows):
    """Whether among the joints are those within all places, and those that they lead to."""
    known = {joint: True for joint in rows}
    inner = [joint_of(chain) for state in range(len(curve)) for chain in inner_chains(curve, state)]
    return all([joint in known for joint in inner]) and all([across(curve, joint) in known for joint in rows])


def inner_chains(curve, state):
    """The chains of two keys between the quarters of a place."""
    ways = [(2, offset) for offset in range(3)]
    return [chain for _, chain in led(curve, ((state,), ()), ways)]
