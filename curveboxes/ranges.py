"""The ranges of a box in a square: the stretches of consecutive keys of its places."""

from curveboxes.checks import is_between
from curveboxes.cuts import begin_of, full_blocks, measured, measures, nearest, whole
from curveboxes.errors import BadKey, BadMany, TooMany
from curveboxes.needs import need_many, need_square_and_box
from curveboxes.spans import Spans

RANGES = 1000


def count(square, box):
    """How many ranges there are."""
    need_square_and_box(square, box)
    block = whole(square, box)
    return measured(block, measures(square.curve, block))[0]


def spans_of(square, box, most=RANGES):
    """The Spans of the keys of the box, of at most so many ranges."""
    need_square_and_box(square, box)
    need_many(most, 1, RANGES)
    # They are counted first: a great box has too many to go through them.
    if count(square, box) > most:
        raise TooMany("spans", most)
    pairs = full_blocks(square.curve, whole(square, box))
    return Spans(*pairs)


def span_at(square, box, n):
    """The range (low, high) with this index by ascending keys."""
    need_square_and_box(square, box)
    block = whole(square, box)
    known = measures(square.curve, block)
    many = measured(block, known)[0]
    if not is_between(n, 0, many - 1):
        raise BadMany(n)
    low = begin_of(square.curve, block, n, known)
    behind = nearest(square.curve, block, low, False, True)
    if behind is None:
        return low, square.last
    return low, behind - 1


def first_key(square, box):
    """The least key of the box."""
    need_square_and_box(square, box)
    return nearest(square.curve, whole(square, box), 0, True, True)


def last_key(square, box):
    """The greatest key of the box."""
    need_square_and_box(square, box)
    return nearest(square.curve, whole(square, box), square.last, True, False)


def next_key(square, box, key):
    """The least key of the box from a key on, or None."""
    need_square_and_box(square, box)
    need_key(square, key)
    return nearest(square.curve, whole(square, box), key, True, True)


def key_ahead(square, box, key):
    """The greatest key of the box that is less than a key, or None."""
    need_square_and_box(square, box)
    need_key(square, key)
    return nearest(square.curve, whole(square, box), key - 1, True, False)


def need_key(square, key):
    """Raises BadKey unless it is a key of the square."""
    if not is_between(key, 0, square.last):
        raise BadKey(key)
