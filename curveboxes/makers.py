"""Some known curves."""

from curveboxes.curves import Curve
from curveboxes.errors import BadCurve
from curveboxes.states import is_row

TURNING = "0>1 2>0 3>0 1>2 / 0>0 1>1 3>1 2>3 / 3>3 2>2 0>2 1>0 / 3>2 1>3 0>3 2>1"
RING = "0>1 2>1 3>2 1>2 / 1>3 0>1 2>1 3>4 / 2>4 3>2 1>2 0>3 / 1>1 3>3 2>3 0>2 / 2>2 0>4 1>4 3>1"


def plain(*order):
    """The curve of one state with this order of the quarters."""
    row = [(quarter, 0) for quarter in order]
    if not is_row(row, 1):
        raise BadCurve("order")
    return Curve(row)


def laced():
    """The curve whose keys have the bits of y and x by turns."""
    return plain(0, 1, 2, 3)


def cup():
    """The curve of one state that goes up, to the right and down."""
    return plain(0, 2, 3, 1)


def turning():
    """A curve whose steps all go along a row or a column to a neighbour."""
    return Curve.read(TURNING)


def ring():
    """A curve that goes to neighbours by turned forms of turning() and comes round."""
    return Curve.read(RING)
