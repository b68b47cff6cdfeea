"""Whether two curves are the same, where they come apart, and how one comes from the other."""

from curveboxes.checks import is_between, is_level
from curveboxes.needs import need_curve
from curveboxes.papers import kept


class Same:
    """Two curves are equal."""

    def __eq__(self, other):
        return isinstance(other, Same)


class Apart:
    """Two curves have unlike places for a key of a level."""

    def __init__(self, level, key):
        self.level = kept(level)
        self.key = kept(key)

    def __bool__(self):
        return False

    def __eq__(self, other):
        return isinstance(other, Apart) and self.level == other.level and self.key == other.key


def compare(one, other):
    """A Same, or an Apart with the least level and key at which two curves come apart."""
    need_curve(one, "one")
    need_curve(other, "other")
    seen = {(0, 0): True}
    layer = {(0, 0): 0}
    level = 0
    # A pair of states that was met comes apart soonest where it was met first, there at its least key.
    while layer:
        level += 1
        keys = [4 * key + parting(one, other, pair) for pair, key in layer.items() if parting(one, other, pair) < 4]
        if keys:
            return Apart(level, min([int(key) for key in keys]))
        layer = pairs_on(one, other, layer, seen)
        for pair in layer:
            seen[pair] = True
    return Same()


def parting(one, other, pair):
    """The least digit for which two states tell unlike quarters; 4 if there is none."""
    rows = one.rows[pair[0]], other.rows[pair[1]]
    digit = 0
    while digit < 4 and rows[0][digit][0] == rows[1][digit][0]:
        digit += 1
    return digit


def pairs_on(one, other, layer, seen):
    """The pairs of states a level on that were not seen, with their least keys."""
    found = {}
    for pair, key in layer.items():
        for digit in range(4):
            after = one.rows[pair[0]][digit][1], other.rows[pair[1]][digit][1]
            if after not in seen:
                found[after] = min(int(4 * key + digit), found.get(after, 4 * key + digit))
    return found


def kin(one, other):
    """All (turns, is_mirrored, is_reversed) by which the other curve comes from one."""
    need_curve(one, "one")
    need_curve(other, "other")
    found = []
    for turns in range(4):
        for is_mirrored in (False, True):
            turned = (~one if is_mirrored else one) << turns
            for is_reversed in (False, True):
                form = -turned if is_reversed else turned
                if form == other:
                    found.append((turns, is_mirrored, is_reversed))
    return tuple(found)


def shows_compare(one, other, value):
    """Whether any value is a Same of equal curves, or an Apart at which they have unlike places."""
    need_curve(one, "one")
    need_curve(other, "other")
    if isinstance(value, Same):
        return one == other
    if not isinstance(value, Apart) or not is_level(value.level):
        return False
    square = one(value.level)
    if not is_between(value.key, 0, square.last):
        return False
    return square.place_of(value.key) != other(value.level).place_of(value.key)
