"""What a store holds at a moment; moments never change, so that each can be come back to."""


class Moment:
    """A square, the ascending keys of the rows, the rows; and the moment and the deed that it came from."""

    def __init__(self, ground, marks, rows, word=None, before=None):
        self.ground = ground
        self.marks = marks
        self.rows = rows
        self.word = word
        self.before = before
        self.age = 0 if before is None else before.age + 1

    def after(self, word, ground, marks, rows):
        """The moment behind a deed of this moment."""
        return Moment(ground, marks, rows, word, self)

    def index_from(self, key):
        """The index of the first row whose key is this one or above it, or the number of rows."""
        low = 0
        high = len(self.marks)
        while low < high:
            middle = (low + high) // 2
            if self.marks[middle] < key:
                low = middle + 1
            else:
                high = middle
        return low

    def has(self, key):
        """Whether there is a row with this key."""
        at = self.index_from(key)
        return at < len(self.marks) and self.marks[at] == key

    def with_row(self, key, row):
        """The moment behind a put of a row, in the place of one with the same key."""
        at = self.index_from(key)
        end = self.index_from(key + 1)
        marks = self.marks[:at] + (key,) + self.marks[end:]
        return self.after("put", self.ground, marks, self.rows[:at] + (row,) + self.rows[end:])

    def without(self, key):
        """The moment behind a take of the row with this key."""
        at = self.index_from(key)
        marks = self.marks[:at] + self.marks[at + 1:]
        return self.after("take", self.ground, marks, self.rows[:at] + self.rows[at + 1:])


class Trial:
    """A block behind which a store is as it was when the block began."""

    def __init__(self, store):
        self.store = store
        self.now = None
        self.rows = ()

    def __enter__(self):
        self.now = self.store.now
        self.rows = self.store.rows
        return self.store

    def __exit__(self, kind, value, trace):
        store = self.store
        store.now = self.now
        store.rows = self.rows
