"""Stores: rows at the places of a square, in the order of the keys of these."""

from curveboxes.boxes import Box
from curveboxes.checks import is_between
from curveboxes.covers import cover
from curveboxes.errors import BadPlace, BadRow, NoDeed, NoRow, Outside, TooMany
from curveboxes.moments import Moment, Trial, has_mark, index_from
from curveboxes.needs import need_many, need_square_and_box
from curveboxes.papers import kept
from curveboxes.ranges import first_key, next_key, spans_of
from curveboxes.squares import Square

ROWS = 500
VALUE = 10 ** 9


class Scan:
    """The rows that a store told, how many seeks this took, and how many rows were read."""

    def __init__(self, rows, seeks, passed):
        self.rows = kept(rows)
        self.seeks = kept(seeks)
        self.passed = kept(passed)

    def __eq__(self, other):
        return (isinstance(other, Scan) and self.rows == other.rows and self.seeks == other.seeks
                and self.passed == other.passed)


class Store:
    """Rows (x, y, value) at places of a square, sorted by the keys of their places."""

    def __init__(self, curve, level):
        self.now = Moment(Square(curve, level), (), ())
        self.rows = ()

    @property
    def square_now(self):
        """Its Square."""
        return self.now.ground

    @property
    def curve_now(self):
        """The curve of its Square."""
        return self.now.ground.curve

    @curve_now.setter
    def curve_now(self, value):
        self.exchange(value, self.level_now)

    @property
    def level_now(self):
        """The level of its Square."""
        return self.now.ground.level

    @level_now.setter
    def level_now(self, value):
        self.exchange(self.curve_now, value)

    @property
    def deeds(self):
        """How many deeds can be taken back."""
        return self.now.age

    def __len__(self):
        return len(self.rows)

    def __iter__(self):
        return iter(self.rows)

    def __eq__(self, other):
        return isinstance(other, Store) and self.now.ground == other.now.ground and self.rows == other.rows

    def __contains__(self, x):
        return x in self.now.ground and has_mark(self.now.marks, self.now.ground[x])

    def __getitem__(self, at):
        key = self.now.ground[at]
        if not has_mark(self.now.marks, key):
            raise NoRow(at)
        return self.rows[index_from(self.now.marks, key)][2]

    def __setitem__(self, at, worth):
        key = self.now.ground[at]
        if not is_between(worth, 0, VALUE):
            raise BadRow(worth)
        is_new = not has_mark(self.now.marks, key)
        if is_new and len(self.rows) == ROWS:
            raise TooMany("rows", ROWS)
        self.go(self.now.with_row(key, (at[0], at[1], worth)))

    def take(self, x, y):
        """Takes the row at a place out and returns its value."""
        value = self[x, y]
        self.go(self.now.without(self.now.ground[x, y]))
        return value

    def go(self, moment):
        """Holds from now on what is held at this moment."""
        self.now = moment
        self.rows = moment.rows

    def scan(self, box):
        """The Scan that skips from range to range of the box."""
        key = first_key(self.square_now, box)
        found = []
        passed = 0
        seeks = 0
        while key is not None:
            seeks += 1
            at = index_from(self.now.marks, key)
            key = None
            while at < len(self.rows) and self.rows[at][:2] in box:
                found.append(self.rows[at])
                passed += 1
                at += 1
            if at < len(self.rows):
                passed += 1
                key = next_key(self.square_now, box, self.now.marks[at])
        return Scan(tuple(found), seeks, passed)

    def sweep(self, box, most):
        """The Scan that reads all rows with keys in the spans of a cover."""
        spans = cover(self.square_now, box, most).spans
        met = []
        for low, high in spans:
            met.extend(self.rows[index_from(self.now.marks, low):index_from(self.now.marks, high + 1)])
        return Scan(rows_inside(box, met), len(spans), len(met))

    def all_of(self, box):
        """The Scan that reads all rows."""
        need_square_and_box(self.square_now, box)
        return Scan(rows_inside(box, self.rows), 1, len(self.rows))

    def lots(self, count):
        """Pairs of a box and so many rows, by their keys, each with the least box of their places."""
        need_many(count, 1, ROWS)
        rows = self.rows
        for at in range(0, len(rows), count):
            lot = rows[at:at + count]
            yield box_around(lot), lot

    def exchange(self, curve, level):
        """Sets the curve and the level; the rows stay at their places."""
        ground = Square(curve, level)
        places = {}
        for row in self.rows:
            if row[:2] not in ground:
                raise Outside(row[:2]) from BadPlace(row[:2])
            places[ground[row[:2]]] = row
        marks = sorted([int(key) for key in places])
        rows = [places[key] for key in marks]
        self.go(self.now.after("exchange", ground, tuple(marks), tuple(rows)))

    def undo(self):
        """Takes the last deed back and returns its word."""
        if self.now.before is None:
            raise NoDeed()
        word = self.now.word
        self.go(self.now.before)
        return word

    def trial(self):
        """For one `with` block, behind which the store is as it was when the block began."""
        return Trial(self)

    def tried(self, work):
        """What work(store) returns, called in such a block."""
        with self.trial() as same:
            return work(same)

    def twin(self):
        """An equal store, with the same deeds, that goes its own way."""
        found = Store(self.curve_now, self.level_now)
        found.go(self.now)
        return found


def rows_inside(box, rows):
    """The tuple of those of the rows whose places are in a box."""
    return tuple([row for row in rows if row[:2] in box])


def box_around(rows):
    """The least box of the places of some rows."""
    columns = sorted([int(row[0]) for row in rows])
    lines = sorted([int(row[1]) for row in rows])
    return Box(columns[0], lines[0], columns[-1] - columns[0] + 1, lines[-1] - lines[0] + 1)


def foes(square, box):
    """The places right behind each range of a box but the last one: with rows there, all ranges take a seek."""
    pairs = spans_of(square, box).pairs
    return tuple([square.place_of(high + 1) for _, high in pairs[:-1]])
