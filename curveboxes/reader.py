"""Reads stores from their texts."""

from curveboxes.curves import Curve, rows_in, wrong_word
from curveboxes.errors import BadText
from curveboxes.moments import Moment
from curveboxes.stores import ROWS, Store
from curveboxes.words import number_in

# The greatest numbers that can stand behind the first word of a line.
LEVEL = (100,)
ROW = ((1 << 100) - 1, (1 << 100) - 1, 10 ** 9)


def read_store(text):
    """The store with just this text, without deeds."""
    if not isinstance(text, str):
        raise BadText(0, 0)
    lines = [line.split(" ") for line in text.split("\n")]
    level = numbers_in(lines, 0, "level", LEVEL)[0]
    need_curve_line(lines)
    rows = [tuple(numbers_in(lines, at, "row", ROW)) for at in range(2, len(lines))]
    curve = curve_in(lines[1][1:])
    return filled(curve, level, rows)


def numbers_in(lines, at, first, bounds):
    """The numbers behind the first word of a line, each from 0 to its bound; BadText for what cannot stand."""
    words = lines[at]
    need_first(words, at, first)
    found = []
    for most in bounds:
        spot = len(found) + 1
        number = number_in(words[spot], 0, most) if spot < len(words) else None
        if number is None:
            raise BadText(at, spot)
        found.append(number)
    if len(words) > len(bounds) + 1:
        raise BadText(at, len(bounds) + 1)
    return found


def need_first(words, at, first):
    """Raises BadText unless a line begins with this word."""
    if words[0] != first:
        raise BadText(at, 0)


def need_curve_line(lines):
    """Raises BadText unless the words of the second line are a curve's."""
    if len(lines) == 1:
        raise BadText(1, 0)
    need_first(lines[1], 1, "curve")
    wrong = wrong_word(lines[1][1:])
    if wrong is not None:
        raise BadText(1, 1 + wrong)


def curve_in(words):
    """The curve with just these words."""
    rows = rows_in(words)
    curve = Curve(*rows)
    if str(curve) != " ".join(words):
        raise BadText(1, 1)
    return curve


def filled(curve, level, rows):
    """The store with these rows, which have to stand by their keys."""
    store = Store(curve, level)
    square = store.square_now
    marks = []
    for row in rows:
        line = len(marks) + 2
        place = row[:2]
        if place not in square or (marks and square[place] <= marks[-1]):
            raise BadText(line, 1)
        if len(marks) == ROWS:
            raise BadText(line, 0)
        marks.append(square[place])
    store.go(Moment(square, tuple(marks), tuple(rows)))
    return store
