"""Windows: how the places of a box follow one another, at all levels and places."""

from curveboxes.checks import LEVELS, is_between, is_integer, is_pair
from curveboxes.errors import BadBox, BadRule, TooMany
from curveboxes.needs import CELLS, SIDE, need_curve, need_size, need_square_and_box
from curveboxes.orders import ascending, is_ascending
from curveboxes.papers import kept

WINDOWS = 2000


class Window:
    """The states of the places of a box, and which of these follow which."""

    def __init__(self, width, height, states, follows):
        self.width = kept(width)
        self.height = kept(height)
        self.states = kept(states)
        self.follows = kept(follows)

    @property
    def ranges(self):
        """How many ranges it has."""
        return len(self.states) - len(self.follows)

    def __eq__(self, other):
        return (isinstance(other, Window) and self.width == other.width and self.height == other.height
                and self.states == other.states and self.follows == other.follows)


def is_window(value, many):
    """Whether any value is a Window of the states below so many."""
    if not isinstance(value, Window):
        return False
    if not is_between(value.width, 1, SIDE) or not is_between(value.height, 1, SIDE):
        return False
    places = value.width * value.height
    if places > CELLS or not isinstance(value.states, tuple) or len(value.states) != places:
        return False
    if not all([is_between(state, 0, many - 1) for state in value.states]):
        return False
    return are_follows(value.follows, places)


def are_follows(value, places):
    """Whether any value is an ascending tuple of pairs of unlike indexes below so many, none twice on one side."""
    if not isinstance(value, tuple):
        return False
    if not all([is_pair(pair) and is_follow(pair, places) for pair in value]):
        return False
    if not is_ascending(value):
        return False
    firsts = {pair[0]: True for pair in value}
    seconds = {pair[1]: True for pair in value}
    return len(firsts) == len(seconds) == len(value)


def is_follow(pair, places):
    """Whether a pair of integers is one of unlike indexes below so many."""
    return 0 <= pair[0] < places and 0 <= pair[1] < places and pair[0] != pair[1]


def window_at(square, box):
    """The window of a box."""
    need_square_and_box(square, box)
    if box.many > CELLS:
        raise TooMany("cells", CELLS)
    places = [square.key_and_state(x, y) for x, y in box.cells()]
    keys = {key: at for at, (key, _) in enumerate(places)}
    follows = [(at, keys[key + 1]) for at, (key, _) in enumerate(places) if key + 1 in keys]
    return Window(box.width, box.height, tuple([state for _, state in places]), tuple(follows))


def family(width, height):
    """The ascending tuple of a size, the sizes of its parents' windows, and so on."""
    need_size(width, height)
    found = {(width, height): True}
    fresh = [(width, height)]
    while fresh:
        size = fresh.pop()
        for parents in parent_sizes(size):
            if parents not in found:
                found[parents] = True
                fresh.append(parents)
    return tuple(ascending(list(found)))


def parent_sizes(size):
    """The sizes of the windows of the parents of boxes of a size."""
    columns = [parent_columns(size[0], odd) for odd in (0, 1)]
    rows = [parent_columns(size[1], odd) for odd in (0, 1)]
    return [(width, height) for width in columns for height in rows]


def parent_columns(many, odd):
    """How many columns have those as quarters that begin with an even or an odd one; rows likewise."""
    return (many + odd + 1) // 2


def refined(curve, window, x, y, width, height):
    """The window a level on, from the column x and the row y of the quarters of a window's places on."""
    need_curve(curve, "curve")
    need_size(width, height)
    if not is_window(window, len(curve)):
        raise BadRule("window")
    if not fits(x, width, window.width) or not fits(y, height, window.height):
        raise BadBox("outside")
    return window_of(refined_mark(curve, mark_of(window), x, y, (width, height)))


def mark_of(window):
    """The tuple (width, height, states, follows) of a window."""
    return window.width, window.height, window.states, window.follows


def fits(first, many, parents):
    """Whether so many columns, from any value on, are among those of the quarters of parents; rows likewise."""
    return is_integer(first) and 0 <= first <= 2 * parents - many


def refined_mark(curve, mark, x, y, size):
    """What `refined` tells: windows as tuples (width, height, states, follows) on both sides."""
    states = []
    digits = []
    for row in range(y, y + size[1]):
        for column in range(x, x + size[0]):
            parent = column // 2 + mark[0] * (row // 2)
            digit, state = curve.ways[mark[2][parent]][(column & 1) + 2 * (row & 1)]
            states.append(state)
            digits.append((parent, digit))
    return *size, tuple(states), followed(digits, mark[3])


def followed(digits, follows):
    """Which places follow which, by their parents and digits, and by which parents follow which."""
    places = {place: at for at, place in enumerate(digits)}
    behind = {parent: after for parent, after in follows}
    found = []
    for at, (parent, digit) in enumerate(digits):
        after = (parent, digit + 1) if digit < 3 else (behind.get(parent), 0)
        if after in places:
            found.append((at, places[after]))
    return tuple(found)


def layers(curve, width, height):
    """Rows (level, x, y, window): each window that occurs, at its least level and its least place there."""
    need_curve(curve, "curve")
    found = occurring((curve,), width, height)
    for level, x, y, marks in found[(width, height)]:
        yield level, x, y, window_of(marks[0])


def tables(curve, width, height):
    """For the sizes of the family the tuples of all windows that occur, in the order of `layers`."""
    need_curve(curve, "curve")
    return window_tables(occurring((curve,), width, height))


def window_tables(found):
    """For the sizes of a family the tuples of the windows that `occurring` tells."""
    return {size: tuple([window_of(marks[0]) for _, _, _, marks in rows]) for size, rows in found.items()}


def window_of(mark):
    """The Window that a tuple (width, height, states, follows) tells."""
    return Window(*mark)


def occurring(curves, width, height):
    """For the sizes of the family the rows (level, x, y, marks) of all that some curves have at the same places.

    The marks are the windows of a place, for each curve a tuple (width, height, states, follows). The width and the
    height can be any values: it raises as `family`.
    """
    sizes = family(width, height)
    ways = ways_between(sizes)
    layer = [(0, 0, tuple([(1, 1, (0,), ()) for _ in curves]))]
    found = {}
    level = 0
    while layer:
        for y, x, marks in layer:
            found[marks] = (level, x, y)
        if len(found) > WINDOWS:
            raise TooMany("windows", WINDOWS)
        layer = windows_on(curves, layer, ways, found)
        level += 1
    # The last layer is empty.
    if level - 1 > LEVELS:
        raise TooMany("levels", LEVELS)
    rows = {size: [] for size in sizes}
    for marks, place in found.items():
        rows[marks[0][:2]].append((*place, marks))
    return rows


def ways_between(sizes):
    """For each of the sizes of parents' windows the ways (x, y, size) to those of their quarters."""
    ways = {size: [] for size in sizes}
    for size in sizes:
        for x in (0, 1):
            for y in (0, 1):
                parents = (parent_columns(size[0], x), parent_columns(size[1], y))
                ways[parents].append((x, y, size))
    return ways


def windows_on(curves, layer, ways, found):
    """The ascending rows (y, x, marks) of the windows that occur first a level on from those of a layer.

    Such windows come from ones that occur first a level ahead, and at their least place from that of these.
    """
    fresh = {}
    for y, x, marks in layer:
        for column, row, size in ways[marks[0][:2]]:
            after = refined_marks(curves, marks, column, row, size)
            place = (2 * y + row, 2 * x + column)
            if after not in found and (after not in fresh or place < fresh[after]):
                fresh[after] = place
    return ascending([(*place, marks) for marks, place in fresh.items()])


def refined_marks(curves, marks, x, y, size):
    """What `refined_mark` tells for each curve."""
    return tuple([refined_mark(curve, mark, x, y, size) for curve, mark in zip(curves, marks)])
