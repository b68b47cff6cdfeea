"""Squares: the places of a level with the keys that a curve gives them."""

from curveboxes.boxes import Box
from curveboxes.checks import is_between, is_level, is_pair
from curveboxes.errors import BadCurve, BadKey, BadLevel, BadPlace
from curveboxes.states import States


class Square:
    """The places of a level with their keys."""

    def __init__(self, curve, level):
        if not isinstance(curve, States):
            raise BadCurve("curve")
        if not is_level(level):
            raise BadLevel(level)
        self.curve = curve
        self.level = level

    @property
    def side(self):
        """How many columns and rows it has."""
        return 1 << self.level

    @property
    def last(self):
        """The greatest key."""
        return (1 << (2 * self.level)) - 1

    def __iter__(self):
        raise TypeError("a Square is walked by walk()")

    def __eq__(self, other):
        return isinstance(other, Square) and self.curve == other.curve and self.level == other.level

    def __contains__(self, x):
        return is_pair(x) and 0 <= x[0] < self.side and 0 <= x[1] < self.side

    def __getitem__(self, at):
        if at not in self:
            raise BadPlace(at)
        return self.key_and_state(at[0], at[1])[0]

    def state_at(self, x, y):
        """The state of a place."""
        if (x, y) not in self:
            raise BadPlace((x, y))
        return self.key_and_state(x, y)[1]

    def key_and_state(self, x, y):
        """The key and the state of a place of it."""
        key = 0
        state = 0
        for at in range(self.level - 1, -1, -1):
            quarter = ((x >> at) & 1) + 2 * ((y >> at) & 1)
            digit, state = self.curve.ways[state][quarter]
            key = 4 * key + digit
        return key, state

    def place_of(self, key):
        """The place of a key."""
        if not is_between(key, 0, self.last):
            raise BadKey(key)
        place = (0, 0, 0)
        for at in range(self.level - 1, -1, -1):
            place = below(self.curve, place, (key >> (2 * at)) & 3)
        return place[0], place[1]

    def walk(self, first=0):
        """The places of all keys from the first one on."""
        if not is_between(first, 0, self.last):
            raise BadKey(first)
        # The path from the square to the place is kept, as from key to key little of it changes.
        path = [(0, 0, 0)]
        for key in range(first, self.last + 1):
            while len(path) <= self.level:
                digit = (key >> (2 * (self.level - len(path)))) & 3
                path.append(below(self.curve, path[-1], digit))
            yield path[-1][0], path[-1][1]
            path.pop()
            rest = key
            while rest & 3 == 3:
                path.pop()
                rest = rest >> 2

    def box(self):
        """The box of all its places."""
        return Box.square(self.level)


def below(curve, place, digit):
    """The quarter with this digit of a place (x, y, state), likewise with its state."""
    x, y, state = place
    quarter, after = curve.rows[state][digit]
    return 2 * x + (quarter & 1), 2 * y + (quarter >> 1), after
