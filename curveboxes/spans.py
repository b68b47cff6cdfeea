"""Sets of keys, kept as stretches of consecutive ones."""

from curveboxes.checks import is_between, is_pair
from curveboxes.errors import BadKey, BadMany, BadSpans, BadText
from curveboxes.words import number_in, words_of

KEYS = 1 << 200


class Spans:
    """A set of keys: ascending stretches (low, high) that neither overlap nor touch."""

    def __init__(self, *pairs):
        for at, pair in enumerate(pairs):
            if not is_stretch(pair):
                raise BadSpans(at)
        self.pairs = merged(pairs)

    @classmethod
    def read(cls, text):
        """The set with just this text."""
        words = words_of(text)
        if words[0] == "none":
            if len(words) > 1:
                raise BadText(0, 1)
            return Spans()
        pairs = []
        for at, word in enumerate(words):
            pair = stretch_in(word)
            if pair is None or (at > 0 and pair[0] <= pairs[-1][1] + 1):
                raise BadText(0, at)
            pairs.append(pair)
        return Spans(*pairs)

    @property
    def total(self):
        """How many keys it has."""
        return sum([high - low + 1 for low, high in self.pairs])

    def __len__(self):
        return len(self.pairs)

    def __bool__(self):
        return bool(self.pairs)

    def __iter__(self):
        return iter(self.pairs)

    def __getitem__(self, at):
        return self.pairs[at]

    def __str__(self):
        if not self.pairs:
            return "none"
        return " ".join([stretch_word(low, high) for low, high in self.pairs])

    def __eq__(self, other):
        return isinstance(other, Spans) and self.pairs == other.pairs

    def __contains__(self, x):
        return is_key(x) and least_from(self.pairs, x) == x

    def __or__(self, other):
        need_spans(other)
        pairs = [*self.pairs, *other.pairs]
        return Spans(*pairs)

    def __and__(self, other):
        need_spans(other)
        pairs = common(self.pairs, other.pairs)
        return Spans(*pairs)

    def __sub__(self, other):
        need_spans(other)
        pairs = common(self.pairs, left_out(other.pairs))
        return Spans(*pairs)

    def __le__(self, other):
        need_spans(other)
        return common(self.pairs, other.pairs) == self.pairs

    def __lt__(self, other):
        need_spans(other)
        return self.pairs != other.pairs and common(self.pairs, other.pairs) == self.pairs

    def __ge__(self, other):
        need_spans(other)
        return common(self.pairs, other.pairs) == other.pairs

    def __gt__(self, other):
        need_spans(other)
        return self.pairs != other.pairs and common(self.pairs, other.pairs) == other.pairs

    def next_in(self, key):
        """The least key of it from a key on, or None."""
        if not is_key(key):
            raise BadKey(key)
        return least_from(self.pairs, key)

    def gaps(self):
        """The stretches (low, high) between its stretches, ascending."""
        for at in range(1, len(self.pairs)):
            yield self.pairs[at - 1][1] + 1, self.pairs[at][0] - 1

    def joined(self, most):
        """At most so many stretches with all its keys and as few others as can be."""
        if not is_between(most, 1, 10 ** 6):
            raise BadMany(most)
        if len(self.pairs) <= most:
            return self
        stretches = list(self.gaps())
        found = []
        low = self.pairs[0][0]
        for at in greatest(stretches, most - 1):
            found.append((low, self.pairs[at][1]))
            low = self.pairs[at + 1][0]
        found.append((low, self.pairs[-1][1]))
        return Spans(*found)


def need_spans(other):
    """Raises BadSpans unless it is a set of keys."""
    if not isinstance(other, Spans):
        raise BadSpans("other")


def is_key(value):
    """Whether it can be a key of some level."""
    return is_between(value, 0, KEYS - 1)


def is_stretch(value):
    """Whether it is a pair of keys, the lower one first."""
    return is_pair(value) and 0 <= value[0] <= value[1] < KEYS


def merged(pairs):
    """The ascending tuple of the stretches that these pairs make together."""
    tops = {}
    for low, high in pairs:
        tops[low] = max(int(high), tops.get(low, 0))
    found = []
    for low in sorted([int(key) for key in tops]):
        if found and low <= found[-1][1] + 1:
            found[-1] = (found[-1][0], max(int(tops[low]), found[-1][1]))
        else:
            found.append((low, tops[low]))
    return tuple(found)


def common(ones, others):
    """The stretches of the keys that stand in two ascending tuples of stretches."""
    found = []
    at = 0
    to = 0
    while at < len(ones) and to < len(others):
        low = max(int(ones[at][0]), others[to][0])
        high = min(int(ones[at][1]), others[to][1])
        if low <= high:
            found.append((low, high))
        if ones[at][1] < others[to][1]:
            at += 1
        else:
            to += 1
    return tuple(found)


def left_out(pairs):
    """The stretches of all other keys."""
    found = []
    low = 0
    for first, last in pairs:
        if low < first:
            found.append((low, first - 1))
        low = last + 1
    if low < KEYS:
        found.append((low, KEYS - 1))
    return tuple(found)


def least_from(pairs, key):
    """The least key from this one on that stands in an ascending tuple of stretches, or None."""
    low = 0
    high = len(pairs)
    while low < high:
        middle = (low + high) // 2
        if pairs[middle][1] < key:
            low = middle + 1
        else:
            high = middle
    if low == len(pairs):
        return None
    return max(int(key), pairs[low][0])


def greatest(stretches, many):
    """The ascending indexes of so many of the longest stretches, of equal ones the earlier."""
    count = len(stretches)
    # One number tells length and index: longer ones come first, of equal ones the earlier.
    ranks = sorted([int(at - (high - low) * count) for at, (low, high) in enumerate(stretches)])
    return sorted([int(rank % count) for rank in ranks[:many]])


def stretch_word(low, high):
    """The word of a stretch."""
    if low == high:
        return str(low)
    return f"{low}-{high}"


def stretch_in(word):
    """The stretch with this word, or None."""
    ends = [number_in(part, 0, KEYS - 1) for part in word.split("-")]
    if len(ends) > 2 or None in ends:
        return None
    low = ends[0]
    high = ends[-1]
    if len(ends) == 2 and low >= high:
        return None
    return low, high
