"""Curves: tables that tell in which order the keys go round the quarters."""

from curveboxes.checks import is_between, is_integer
from curveboxes.errors import BadCurve, BadMany, BadText
from curveboxes.squares import Square
from curveboxes.states import States, is_row
from curveboxes.words import number_in, words_of

# Where each quarter comes to: mirrored, and turned to the left by no, one, two, three right angles.
MIRRORED = (0, 2, 1, 3)
TURNED = ((0, 1, 2, 3), (1, 3, 0, 2), (3, 2, 1, 0), (2, 0, 3, 1))


class Curve(States):
    """States that tell an order of the four quarters and the states of these."""

    MOST = 16

    def __init__(self, *rows):
        if not 1 <= len(rows) <= Curve.MOST:
            raise BadCurve("rows")
        for at, row in enumerate(rows):
            if not is_row(row, len(rows)):
                raise BadCurve(at)
        super().__init__(rows)

    @classmethod
    def read(cls, text):
        """The curve with the rows of a text, in the least form or not."""
        words = words_of(text)
        wrong = wrong_word(words)
        if wrong is not None:
            raise BadText(0, wrong)
        rows = rows_in(words)
        return Curve(*rows)

    def __len__(self):
        return len(self.rows)

    def __iter__(self):
        return iter(self.rows)

    def __getitem__(self, at):
        return self.rows[at]

    def __str__(self):
        return " / ".join([row_text(row) for row in self.rows])

    def __eq__(self, other):
        return isinstance(other, Curve) and self.rows == other.rows

    def __call__(self, level):
        return Square(self, level)

    def __invert__(self):
        rows = moved(self.rows, MIRRORED)
        return Curve(*rows)

    def __neg__(self):
        rows = [row[::-1] for row in self.rows]
        return Curve(*rows)

    def __lshift__(self, other):
        if not is_integer(other):
            raise BadMany(other)
        rows = moved(self.rows, TURNED[other % 4])
        return Curve(*rows)

    def begun(self, state):
        """The curve whose state 0 is this state."""
        if not is_between(state, 0, len(self.rows) - 1):
            raise BadMany(state)
        # The two states change their numbers; the least form sees to all others.
        names = {0: state, state: 0}
        swapped = [self.rows[names.get(at, at)] for at in range(len(self.rows))]
        rows = [[(quarter, names.get(after, after)) for quarter, after in row] for row in swapped]
        return Curve(*rows)


def moved(rows, quarters):
    """The rows with what each quarter comes to in its place."""
    return [[(quarters[quarter], state) for quarter, state in row] for row in rows]


def row_text(row):
    """The words of a row."""
    return " ".join([f"{quarter}>{state}" for quarter, state in row])


def wrong_word(words):
    """The index of the first word that cannot stand or is missing in the text of a curve, or None."""
    met = []
    for at, word in enumerate(words):
        if at % 5 == 4:
            if word != "/":
                return at
            met = []
        else:
            pair = pair_in(word)
            if pair is None or pair[0] in met:
                return at
            met.append(pair[0])
    if len(words) % 5 != 4:
        return len(words)
    return None


def rows_in(words):
    """The rows that the words of a curve tell."""
    return [[pair_in(word) for word in words[at:at + 4]] for at in range(0, len(words), 5)]


def pair_in(word):
    """The quarter and the state that a word tells, or None."""
    parts = word.split(">")
    if len(parts) != 2:
        return None
    quarter = number_in(parts[0], 0, 3)
    state = number_in(parts[1], 0, Curve.MOST - 1)
    if quarter is None or state is None:
        return None
    return quarter, state
