"""Boxes of places."""

from curveboxes.checks import is_between, is_level, is_pair
from curveboxes.errors import BadBox, BadLevel, BadMany, BadText, TooMany
from curveboxes.words import number_in, words_of

SIDE = 1 << 100
CELLS = 10000


class Box:
    """The places of some columns from x on and of some rows from y on."""

    def __init__(self, x, y, width=1, height=1):
        if not is_between(x, 0, SIDE - 1):
            raise BadBox("x")
        if not is_between(y, 0, SIDE - 1):
            raise BadBox("y")
        if not is_between(width, 1, SIDE):
            raise BadBox("width")
        if not is_between(height, 1, SIDE):
            raise BadBox("height")
        self.x = x
        self.y = y
        self.width = width
        self.height = height

    @staticmethod
    def square(level):
        """The box of all places of a level."""
        if not is_level(level):
            raise BadLevel(level)
        return Box(0, 0, 1 << level, 1 << level)

    @classmethod
    def read(cls, text):
        """The box with this text."""
        words = words_of(text)
        numbers = []
        for least, most in ((0, SIDE - 1), (0, SIDE - 1), (1, SIDE), (1, SIDE)):
            at = len(numbers)
            number = None
            if at < len(words):
                number = number_in(words[at], least, most)
            if number is None:
                raise BadText(0, at)
            numbers.append(number)
        if len(words) > len(numbers):
            raise BadText(0, len(numbers))
        return Box(*numbers)

    @property
    def right(self):
        """The last column."""
        return self.x + self.width - 1

    @property
    def top(self):
        """The last row."""
        return self.y + self.height - 1

    @property
    def many(self):
        """How many places it has."""
        return self.width * self.height

    def __str__(self):
        return f"{self.x} {self.y} {self.width} {self.height}"

    def __eq__(self, other):
        return (isinstance(other, Box) and self.x == other.x and self.y == other.y
                and self.width == other.width and self.height == other.height)

    def __contains__(self, x):
        return is_pair(x) and self.x <= x[0] <= self.right and self.y <= x[1] <= self.top

    def __and__(self, other):
        need_box(other)
        x = max(int(self.x), other.x)
        y = max(int(self.y), other.y)
        right = min(int(self.right), other.right)
        top = min(int(self.top), other.top)
        if right < x or top < y:
            return None
        return spread(x, y, right, top)

    def __or__(self, other):
        need_box(other)
        x = min(int(self.x), other.x)
        y = min(int(self.y), other.y)
        right = max(int(self.right), other.right)
        top = max(int(self.top), other.top)
        return spread(x, y, right, top)

    def __le__(self, other):
        need_box(other)
        return is_within(self, other)

    def __lt__(self, other):
        need_box(other)
        return is_within(self, other) and not is_within(other, self)

    def __ge__(self, other):
        need_box(other)
        return is_within(other, self)

    def __gt__(self, other):
        need_box(other)
        return is_within(other, self) and not is_within(self, other)

    def __add__(self, other):
        need_move(other)
        return Box(self.x + other[0], self.y + other[1], self.width, self.height)

    def __sub__(self, other):
        need_move(other)
        return Box(self.x - other[0], self.y - other[1], self.width, self.height)

    def __rshift__(self, other):
        need_levels(other)
        return spread(self.x >> other, self.y >> other, self.right >> other, self.top >> other)

    def __lshift__(self, other):
        need_levels(other)
        return Box(self.x << other, self.y << other, self.width << other, self.height << other)

    def cells(self):
        """Its places, row by row from the lowest, each from the left."""
        if self.many > CELLS:
            raise TooMany("cells", CELLS)
        for y in range(self.y, self.top + 1):
            for x in range(self.x, self.right + 1):
                yield x, y


def spread(x, y, right, top):
    """The box from a first column and row to a last column and row."""
    return Box(x, y, right - x + 1, top - y + 1)


def is_within(box, other):
    """Whether all places of a box are in the other one."""
    return other.x <= box.x and box.right <= other.right and other.y <= box.y and box.top <= other.top


def need_box(other):
    """Raises BadBox unless it is a box."""
    if not isinstance(other, Box):
        raise BadBox("other")


def need_move(move):
    """Raises BadBox unless it is a pair."""
    if not is_pair(move):
        raise BadBox("move")


def need_levels(levels):
    """Raises BadMany unless a box can be led so many levels."""
    if not is_level(levels):
        raise BadMany(levels)
