"""Of what kind any value is."""

LEVELS = 100


def is_integer(value):
    """Whether it is an integer; True and False are none."""
    return isinstance(value, int) and not isinstance(value, bool)


def is_between(value, least, most):
    """Whether it is an integer from least to most."""
    return is_integer(value) and least <= value <= most


def is_level(value):
    """Whether it is an integer from 0 to 100."""
    return is_between(value, 0, LEVELS)


def is_pair(value):
    """Whether it is a tuple of two integers."""
    return isinstance(value, tuple) and len(value) == 2 and is_integer(value[0]) and is_integer(value[1])
