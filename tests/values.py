"""Values of many kinds, and a check of the error that a call raises."""

from curveboxes.boxes import Box
from curveboxes.desk import Desk
from curveboxes.makers import laced
from curveboxes.spans import Spans
from curveboxes.squares import Square
from curveboxes.stores import Scan


def nested(deep):
    value = 1
    for _ in range(deep):
        value = (value,)
    return value


# None of these is an integer from -1 on below 10 ** 61, a pair of integers, or an own object.
STRANGE = (
    None, True, False, "", "0", "1 1", "a\nb", (), [], {}, [0], [0, 1], [0, 0, 1, 1], {"x": 1}, {0: 1},
    (0,), (0, 1, 2), (0, True), (False, 0), (0, None), ("0", "1"), ((0, 1), (2, 3)), nested(20),
)
NEGATIVE = (-1, -2, -(10 ** 61))
HUGE = (10 ** 61, 10 ** 62 - 1)
OWN = (Box(0, 0), Spans((0, 1)), laced(), Square(laced(), 1), Desk(), Scan((), 1, 0))


def raised(test, error, fields, call, *values, **named):
    """Fails unless the call raises just this error, with these fields of the same kinds."""
    with test.assertRaises(error) as caught:
        call(*values, **named)
    test.assertIs(type(caught.exception), error)
    names = [name for name in vars(caught.exception)]
    found = tuple(getattr(caught.exception, name) for name in names)
    test.assertEqual(found, tuple(fields))
    test.assertEqual([type(part) for part in found], [type(part) for part in fields])
