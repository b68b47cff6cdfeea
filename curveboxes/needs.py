"""What several functions ask of their arguments, with the errors that they raise."""

from curveboxes.boxes import Box
from curveboxes.checks import is_between
from curveboxes.curves import Curve
from curveboxes.errors import BadBox, BadCurve, BadMany, TooMany
from curveboxes.squares import Square

SIDE = 16
CELLS = 16


def need_curve(value, part):
    """Raises BadCurve unless it is a curve."""
    if not isinstance(value, Curve):
        raise BadCurve(part)


def need_square_and_box(square, box):
    """Raises BadCurve or BadBox unless they are a square and a box within it."""
    if not isinstance(square, Square):
        raise BadCurve("square")
    if not isinstance(box, Box):
        raise BadBox("box")
    if not box <= square.box():
        raise BadBox("outside")


def need_many(value, least, most):
    """Raises BadMany unless it is an integer from least to most."""
    if not is_between(value, least, most):
        raise BadMany(value)


def need_size(width, height):
    """Raises BadMany or TooMany unless there are windows of this size."""
    need_many(width, 1, SIDE)
    need_many(height, 1, SIDE)
    if width * height > CELLS:
        raise TooMany("cells", CELLS)
