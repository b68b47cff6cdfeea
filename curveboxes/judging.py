"""Judging: what holds for the boxes of a size at all levels and places, or where it does not."""

from curveboxes.needs import need_curve, need_many, need_size
from curveboxes.papers import kept
from curveboxes.rules import need_rule
from curveboxes.windows import occurring, window_of, window_tables

MORE = 16


class Always:
    """It holds at all levels and places, as these tables of windows show."""

    def __init__(self, tables):
        self.tables = kept(tables)

    def __eq__(self, other):
        return isinstance(other, Always) and self.tables == other.tables


class Breach:
    """It does not hold for the box with this lower left place of a level."""

    def __init__(self, level, x, y):
        self.level = kept(level)
        self.x = kept(x)
        self.y = kept(y)

    def __bool__(self):
        return False

    def __eq__(self, other):
        return isinstance(other, Breach) and self.level == other.level and self.x == other.x and self.y == other.y


class Numbers:
    """The numbers of ranges of the boxes of a size, and the tables of windows that show that there are no others."""

    def __init__(self, rows, tables):
        self.rows = kept(rows)
        self.tables = kept(tables)

    def __eq__(self, other):
        return isinstance(other, Numbers) and self.rows == other.rows and self.tables == other.tables


class Twin:
    """The windows that two curves have at one place."""

    def __init__(self, one, other):
        self.one = kept(one)
        self.other = kept(other)

    def __eq__(self, other):
        return isinstance(other, Twin) and self.one == other.one and self.other == other.other


def judge(curve, rule):
    """An Always if a rule holds at all levels and places, or the first Breach."""
    need_curve(curve, "curve")
    need_rule(rule, "rule")
    found = occurring((curve,), rule.width, rule.height)
    for level, x, y, marks in found[(rule.width, rule.height)]:
        if not rule.holds_for(window_of(marks[0])):
            return Breach(level, x, y)
    return Always(window_tables(found))


def numbers(curve, width, height):
    """The Numbers of ranges of all boxes of a size, each with the first box that has it."""
    need_curve(curve, "curve")
    found = occurring((curve,), width, height)
    first = {}
    for level, x, y, marks in found[(width, height)]:
        number = window_of(marks[0]).ranges
        first.setdefault(number, (number, level, x, y))
    rows = [first[key] for key in sorted([int(one) for one in first])]
    return Numbers(tuple(rows), window_tables(found))


def most_ranges(curve, width, height):
    """The greatest number of ranges that a box of a size has at any level and place."""
    return numbers(curve, width, height).rows[-1][0]


def never_more(one, other, width, height, more=0):
    """An Always if all boxes of a size have in one curve at most so many ranges more than in the other, or a Breach."""
    need_curve(one, "one")
    need_curve(other, "other")
    need_size(width, height)
    need_many(more, -MORE, MORE)
    found = occurring((one, other), width, height)
    for level, x, y, marks in found[(width, height)]:
        if has_more(twin_of(marks), more):
            return Breach(level, x, y)
    return Always(twin_tables(found))


def twin_tables(found):
    """For the sizes of a family the tuples of all Twins that occur."""
    return {size: tuple([twin_of(marks) for _, _, _, marks in rows]) for size, rows in found.items()}


def twin_of(marks):
    """The Twin of two windows that are told as tuples."""
    return Twin(window_of(marks[0]), window_of(marks[1]))


def has_more(twin, more):
    """Whether the first window of a Twin has more ranges than so many more than the other one."""
    return twin.one.ranges > twin.other.ranges + more
