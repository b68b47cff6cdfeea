"""The states of curves, and the least form in which a curve keeps them."""

from curveboxes.checks import is_between, is_pair


class States:
    """The states of a curve in their least form: the base of Curve.

    It stands apart because squares have to know a curve, and a curve makes squares.
    """

    def __init__(self, rows):
        self.rows = least_form(rows)
        self.ways = tuple([by_quarter(row) for row in self.rows])


def is_row(value, many):
    """Whether it can be a row of a curve of so many states."""
    if not isinstance(value, (list, tuple)) or len(value) != 4:
        return False
    for pair in value:
        if not is_pair(pair) or not is_between(pair[1], 0, many - 1):
            return False
    return sorted([int(pair[0]) for pair in value]) == [0, 1, 2, 3]


def least_form(rows):
    """The least rows with the same keys: states that are met, alike ones as one, in order."""
    kinds = kinds_of(rows)
    numbers = {kinds[0]: 0}
    met = [0]
    at = 0
    while at < len(met):
        row = rows[met[at]]
        for _, state in row:
            if kinds[state] not in numbers:
                numbers[kinds[state]] = len(met)
                met.append(state)
        at += 1
    return tuple([renamed(rows[state], [numbers.get(kind) for kind in kinds]) for state in met])


def kinds_of(rows):
    """The kind of each state: those of one kind order the quarters alike at all levels."""
    kinds = numbered([tuple([quarter for quarter, _ in row]) for row in rows])
    many = 0
    # A round parts states whose quarters have states of unlike kinds; without a new kind none follows.
    while many < len(set(kinds)):
        many = len(set(kinds))
        below = [tuple([kinds[state] for _, state in row]) for row in rows]
        kinds = numbered([(kind, below[at]) for at, kind in enumerate(kinds)])
    return kinds


def numbered(marks):
    """For each mark its number: equal marks have equal numbers."""
    numbers = {}
    for mark in marks:
        if mark not in numbers:
            numbers[mark] = len(numbers)
    return [numbers[mark] for mark in marks]


def renamed(row, numbers):
    """The row with the number of each state in its place."""
    return tuple([(quarter, numbers[state]) for quarter, state in row])


def by_quarter(row):
    """For each quarter its digit and its state."""
    found = {quarter: (digit, state) for digit, (quarter, state) in enumerate(row)}
    return tuple([found[quarter] for quarter in range(4)])
