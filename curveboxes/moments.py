"""What a store holds at a moment; moments never change, so that each can be come back to."""


class Moment:
    """A square, the ascending keys of the rows, the rows; and the moment and the deed that it came from."""

    def __init__(self, ground, marks, rows, word=None, before=None):
        self.ground = ground
        self.marks = marks
        self.rows = rows
        self.word = word
        self.before = before
        self.age = 0 if before is None else before.age + 1

    def after(self, word, ground, marks, rows):
        """The moment behind a deed of this moment."""
        return Moment(ground, marks, rows, word, self)

    def with_row(self, key, row):
        """The moment behind a put of a row, in the place of one with the same key."""
        at = index_from(self.marks, key)
        end = index_from(self.marks, key + 1)
        marks = self.marks[:at] + (key,) + self.marks[end:]
        return self.after("put", self.ground, marks, self.rows[:at] + (row,) + self.rows[end:])

    def without(self, key):
        """The moment behind a take of the row with this key."""
        at = index_from(self.marks, key)
        marks = self.marks[:at] + self.marks[at + 1:]
        return self.after("take", self.ground, marks, self.rows[:at] + self.rows[at + 1:])


def index_from(marks, key):
    """The index of the first of ascending keys that is this one or above it, or how many there are."""
    low = 0
    high = len(marks)
    while low < high:
        middle = (low + high) // 2
        if marks[middle] < key:
            low = middle + 1
        else:
            high = middle
    return low


def has_mark(marks, key):
    """Whether a key is one of ascending ones."""
    at = index_from(marks, key)
    return at < len(marks) and marks[at] == key


class Trial:
    """A block behind which a store is as it was when the block began."""

    def __init__(self, store):
        self.store = store
        self.now = None
        self.rows = ()

    def __enter__(self):
        self.now = self.store.now
        self.rows = self.store.rows
        return self.store

    def __exit__(self, kind, value, trace):
        store = self.store
        store.now = self.now
        store.rows = self.rows
