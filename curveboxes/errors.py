"""The errors of the package: what was wrong stands in their attributes."""


class CurveError(ValueError):
    """The base of all errors of the package."""


class BadInput(CurveError):
    """An argument that is not what it has to be."""


class Refused(CurveError):
    """A question that is understood, but not answered."""


class NoAnswer(CurveError):
    """A question without an answer."""


class BadCurve(BadInput):
    """What is no curve, or no part of one."""

    def __init__(self, part):
        self.part = part


class BadLevel(BadInput):
    """What is no level."""

    def __init__(self, value):
        self.value = value


class BadPlace(BadInput):
    """What is no place where one is asked for."""

    def __init__(self, value):
        self.value = value


class BadKey(BadInput):
    """What is no key where one is asked for."""

    def __init__(self, value):
        self.value = value


class BadBox(BadInput):
    """What is no box, or no part of one."""

    def __init__(self, part):
        self.part = part


class BadSpans(BadInput):
    """What is no set of keys, or no stretch of one."""

    def __init__(self, part):
        self.part = part


class BadMany(BadInput):
    """What is no number within the bounds."""

    def __init__(self, value):
        self.value = value


class BadRule(BadInput):
    """What is no rule, or no part of one."""

    def __init__(self, part):
        self.part = part


class BadStore(BadInput):
    """What is no store."""

    def __init__(self, part):
        self.part = part


class BadRow(BadInput):
    """What is no value of a row."""

    def __init__(self, value):
        self.value = value


class BadBook(BadInput):
    """What is no book, or no part of one."""

    def __init__(self, part):
        self.part = part


class BadText(BadInput):
    """A text in which a word cannot stand or is missing."""

    def __init__(self, line, word):
        self.line = line
        self.word = word


class BadLine(BadInput):
    """A line for a desk in which a word cannot stand or is missing."""

    def __init__(self, word):
        self.word = word


class Endless(Refused):
    """Steps that grow without end."""

    def __init__(self, level, key):
        self.level = level
        self.key = key


class Unlike(Refused):
    """Two things that do not go together."""

    def __init__(self, part):
        self.part = part


class Outside(Refused):
    """A row that has no place in the new square."""

    def __init__(self, place):
        self.place = place


class TooMany(Refused):
    """More than can be handled."""

    def __init__(self, what, most):
        self.what = what
        self.most = most


class NoRow(NoAnswer):
    """A place without a row."""

    def __init__(self, place):
        self.place = place


class NoDeed(NoAnswer):
    """No deed that can be taken back."""
