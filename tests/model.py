"""A store done slowly and plainly: a dict of rows, all keys of a box, whole copies for what can be taken back."""

from tests.reference import cells, keys_of, stretches

KEYS = {}


def all_keys(curve, level):
    """The keys of all places of a level; those that were asked for before are kept."""
    name = (str(curve), level)
    if name not in KEYS:
        KEYS[name] = keys_of(curve.rows, level)
    return KEYS[name]


class Plain:
    """What a Store of a low level has to tell."""

    def __init__(self, curve, level):
        self.curve, self.level = curve, level
        self.held = {}
        self.past = []

    @property
    def keys(self):
        return all_keys(self.curve, self.level)

    @property
    def rows(self):
        return tuple((*place, self.held[place]) for place in sorted(self.held, key=self.keys.get))

    def note(self, word):
        self.past.append((word, self.curve, self.level, dict(self.held)))

    def put(self, place, value):
        self.note("put")
        self.held[place] = value

    def take(self, place):
        self.note("take")
        return self.held.pop(place)

    def first_outside(self, level):
        """The first place, by the keys, that a level has not, or None."""
        return next(((x, y) for x, y, _ in self.rows if max(x, y) >= 2 ** level), None)

    def exchange(self, curve, level):
        self.note("exchange")
        self.curve, self.level = curve, level

    def undo(self):
        word, self.curve, self.level, self.held = self.past.pop()
        return word

    def box_keys(self, box):
        return sorted(self.keys[place] for place in cells(box.x, box.y, box.width, box.height))

    def row_at(self, key):
        """The row with the least key from this one on, with its key, or None."""
        rows = [(self.keys[row[:2]], row) for row in self.rows if self.keys[row[:2]] >= key]
        return rows[0] if rows else None

    def scan(self, box):
        """The rows in the box, how many seeks and how many rows were read, word by word as the document tells it."""
        inside = self.box_keys(box)
        told, sought, read = [], [inside[0]], 0
        found = self.row_at(inside[0])
        while found is not None:
            key, row = found
            read += 1
            if key in inside:
                told.append(row)
                found = self.row_at(key + 1)
                continue
            more = [one for one in inside if one > key]
            if not more:
                break
            sought.append(more[0])
            found = self.row_at(more[0])
        # The document's fact: each key that is sought begins a range of the box.
        assert set(sought) <= {low for low, _ in self.ranges(box)}
        return tuple(told), len(sought), read

    def ranges(self, box):
        return stretches(self.box_keys(box))


def check_same(test, store, plain):
    """Fails unless a store holds what a plain one holds."""
    test.assertEqual(store.rows, plain.rows)
    test.assertEqual(list(store), list(plain.rows))
    test.assertEqual(len(store), len(plain.held))
    test.assertIs(bool(store), bool(plain.held))
    test.assertEqual((store.curve_now, store.level_now), (plain.curve, plain.level))
    test.assertEqual(store.square_now, plain.curve(plain.level))
    test.assertEqual(store.deeds, len(plain.past))
