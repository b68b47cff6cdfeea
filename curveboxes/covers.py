"""Covers: few stretches of keys that have all keys of a box, and some others."""

from curveboxes.checks import is_integer
from curveboxes.needs import need_many, need_square_and_box
from curveboxes.papers import kept
from curveboxes.ranges import spans_of
from curveboxes.spans import Spans

MOST = 1000


class Cover:
    """Stretches of keys, and how many of these are not in the box."""

    def __init__(self, spans, over):
        self.spans = kept(spans)
        self.over = kept(over)

    def __eq__(self, other):
        return isinstance(other, Cover) and self.spans == other.spans and self.over == other.over


def cover(square, box, most):
    """The Cover of at most so many stretches with as few other keys as can be."""
    need_square_and_box(square, box)
    need_many(most, 1, MOST)
    spans = spans_of(square, box).joined(most)
    return Cover(spans, spans.total - box.many)


def shows_cover(square, box, most, value):
    """Whether any value is this Cover."""
    told = cover(square, box, most)
    if not isinstance(value, Cover) or not isinstance(value.spans, Spans) or not is_integer(value.over):
        return False
    return value == told
