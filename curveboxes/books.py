"""Books: sizes of boxes with weights, and what curves cost for them."""

from curveboxes.checks import is_between, is_pair
from curveboxes.curves import Curve
from curveboxes.errors import BadBook, BadCurve, BadMany, BadText
from curveboxes.judging import most_ranges
from curveboxes.needs import CELLS, SIDE, need_curve
from curveboxes.orders import ascending
from curveboxes.words import number_in, words_of

WEIGHT = 10 ** 9
READ = 10 ** 20 - 1


class Book:
    """Sizes, ascending, each with a weight."""

    def __init__(self, *pairs):
        for at, pair in enumerate(pairs):
            if not is_entry(pair):
                raise BadBook(at)
        self.weights = put_together(pairs)
        self.sizes = tuple(ascending(list(self.weights)))

    @classmethod
    def read(cls, text):
        """The book with just this text."""
        words = words_of(text)
        if words[0] == "none":
            if len(words) > 1:
                raise BadText(0, 1)
            return Book()
        entries = []
        for at, word in enumerate(words):
            entry = entry_in(word)
            if entry is None or (at > 0 and entry[0] <= entries[-1][0]):
                raise BadText(0, at)
            entries.append(entry)
        return book_of(entries)

    def __len__(self):
        return len(self.sizes)

    def __iter__(self):
        return iter(self.sizes)

    def __eq__(self, other):
        return isinstance(other, Book) and self.weights == other.weights

    def __str__(self):
        if not self.sizes:
            return "none"
        return " ".join([f"{self.weights[size]}*{size[0]}x{size[1]}" for size in self.sizes])

    def __contains__(self, x):
        return is_size(x) and x in self.weights

    def __getitem__(self, at):
        if not is_size(at):
            raise BadBook("size")
        return self.weights.get(at, 0)

    def __add__(self, other):
        if not isinstance(other, Book):
            raise BadBook("other")
        return book_of(list(self.weights.items()) + list(other.weights.items()))

    def __mul__(self, other):
        if not is_between(other, 1, WEIGHT):
            raise BadMany(other)
        return book_of([(size, weight * other) for size, weight in self.weights.items()])

    def cost(self, curve):
        """The sum of the weights times the greatest numbers of ranges of the sizes."""
        need_curve(curve, "curve")
        return sum([self.weights[size] * most_ranges(curve, size[0], size[1]) for size in self.sizes])

    def best(self, *curves):
        """The ascending tuple of the pairs (cost, index) of some curves."""
        for at, curve in enumerate(curves):
            if not isinstance(curve, Curve):
                raise BadCurve(at)
        return tuple(ascending([(self.cost(curve), at) for at, curve in enumerate(curves)]))


def is_size(value):
    """Whether any value is a pair of a width and a height of windows."""
    if not is_pair(value):
        return False
    return is_between(value[0], 1, SIDE) and is_between(value[1], 1, SIDE) and value[0] * value[1] <= CELLS


def is_entry(value):
    """Whether any value is a pair of a size and a weight."""
    if not isinstance(value, tuple) or len(value) != 2:
        return False
    return is_size(value[0]) and is_between(value[1], 1, WEIGHT)


def put_together(entries):
    """The weights by sizes; those of equal sizes are added."""
    weights = {}
    for size, weight in entries:
        weights[size] = weights.get(size, 0) + weight
    return weights


def book_of(entries):
    """The book of some sizes with weights of any greatness."""
    found = Book()
    found.weights = put_together(entries)
    found.sizes = tuple(ascending(list(found.weights)))
    return found


def entry_in(word):
    """The size and the weight that a word tells, or None."""
    parts = word.split("*")
    if len(parts) != 2:
        return None
    weight = number_in(parts[0], 1, READ)
    size = tuple([number_in(part, 1, SIDE) for part in parts[1].split("x")])
    if weight is None or not is_size(size):
        return None
    return size, weight
