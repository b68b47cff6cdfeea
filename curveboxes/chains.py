"""Chains: the boxes that the places of so many consecutive keys fill, at all levels."""

from curveboxes.checks import LEVELS, is_between, is_integer, is_level, is_pair
from curveboxes.errors import Endless, TooMany
from curveboxes.joints import Far, searched, steps
from curveboxes.needs import need_curve, need_many
from curveboxes.orders import ascending, is_ascending
from curveboxes.papers import kept
from curveboxes.runs import START, are_near, chains_on, due, led, walked, ways_of

COUNT = 16
CHAINS = 2000


class Pages:
    """The sizes of the least boxes of consecutive keys, and the chains that show that there are no others."""

    def __init__(self, shapes, tables):
        self.shapes = kept(shapes)
        self.tables = kept(tables)

    def __eq__(self, other):
        return isinstance(other, Pages) and self.shapes == other.shapes and self.tables == other.tables


def pages(curve, count):
    """The Pages of the places of so many consecutive keys."""
    need_curve(curve, "curve")
    need_many(count, 1, COUNT)
    if count > 1:
        # Called for its errors: where steps grow without end there is no end of chains.
        steps(curve)
    found = explored(curve, due(count))
    tables = {}
    for number in due(count):
        tables[number] = tuple(ascending([chain for chain in found if len(chain[0]) == number]))
    rows = shapes_of([chain for chain in found if len(chain[0]) == count], found)
    return Pages(tuple(rows), tables)


def explored(curve, numbers):
    """A dict of all chains of these numbers of keys, with their least levels and keys."""
    found = {START: (0, 0)}
    layer = {START: 0}
    ways = ways_of(numbers)
    level = 0
    while layer:
        level += 1
        layer = chains_on(curve, layer, ways, found)
        for chain, key in layer.items():
            found[chain] = (level, key)
        if len(found) > CHAINS:
            raise TooMany("chains", CHAINS)
    # The last layer is empty.
    if level - 1 > LEVELS:
        raise TooMany("levels", LEVELS)
    return found


def shapes_of(chains, found):
    """The ascending list of (width, height, level, key) of the sizes of the chains' boxes."""
    best = {}
    for chain in chains:
        size = size_of(chain)
        if size not in best or found[chain] < best[size]:
            best[size] = found[chain]
    return ascending([(*size, *first) for size, first in best.items()])


def size_of(chain):
    """The size of the least box of the places of a chain."""
    return size_around(walked(chain[1]))


def size_around(places):
    """The size of the least box of some places."""
    columns = sorted([int(place[0]) for place in places])
    rows = sorted([int(place[1]) for place in places])
    return columns[-1] - columns[0] + 1, rows[-1] - rows[0] + 1


def widest(curve, count):
    """The sizes for which no other one is at least as wide and at least as high."""
    sizes = [shape[:2] for shape in pages(curve, count).shapes]
    return tuple([size for size in sizes if not [1 for other in sizes if other != size and fits(size, other)]])


def fits(size, other):
    """Whether the other size is at least as wide and at least as high."""
    return size[0] <= other[0] and size[1] <= other[1]


def shows_pages(curve, count, value):
    """Whether any value is a Pages with closed tables and the shapes of these."""
    need_curve(curve, "curve")
    need_many(count, 1, COUNT)
    if count > 1:
        need_no_end(curve)
    if not isinstance(value, Pages) or not are_tables(curve, due(count), value.tables):
        return False
    if not is_closed(curve, value.tables):
        return False
    sizes = {size_of(chain): True for chain in value.tables[count]}
    return are_shapes(curve, count, value.shapes, sizes)


def need_no_end(curve):
    """Raises Endless if some step of a level of squares is no step to a neighbour."""
    found = searched(curve)
    if isinstance(found, Far) and found.level <= LEVELS:
        raise Endless(found.level, found.key)


def are_tables(curve, numbers, tables):
    """Whether any value is a dict from just these numbers to ascending tuples of so many keys' chains."""
    if not isinstance(tables, dict) or len(tables) != len(numbers):
        return False
    if not all([is_integer(number) and number in numbers for number in tables]):
        return False
    if not all([isinstance(chains, tuple) for chains in tables.values()]):
        return False
    if sum([len(chains) for chains in tables.values()]) > CHAINS:
        return False
    for number, chains in tables.items():
        if not all([is_chain(curve, number, chain) for chain in chains]) or not is_ascending(chains):
            return False
    return True


def is_chain(curve, number, value):
    """Whether any value is a chain of so many keys, with states of the curve and steps to neighbours."""
    if not isinstance(value, tuple) or len(value) != 2:
        return False
    states, moves = value
    if not isinstance(states, tuple) or len(states) != number:
        return False
    if not isinstance(moves, tuple) or len(moves) != number - 1:
        return False
    if not all([is_between(state, 0, len(curve) - 1) for state in states]):
        return False
    return all([is_pair(step) for step in moves]) and are_near(moves)


def is_closed(curve, tables):
    """Whether tables of chains have the one that begins all, and all that their chains lead to."""
    known = {chain: True for chains in tables.values() for chain in chains}
    ways = ways_of(list(tables))
    for chain in known:
        if not all([after in known for _, after in led(curve, chain, ways[len(chain[0])])]):
            return False
    return START in known


def are_shapes(curve, count, shapes, sizes):
    """Whether any value is an ascending tuple that has each of these sizes once, where it occurs."""
    if not isinstance(shapes, tuple) or len(shapes) != len(sizes):
        return False
    if not all([is_shape(curve, count, shape) for shape in shapes]) or not is_ascending(shapes):
        return False
    told = {shape[:2]: True for shape in shapes}
    return told == sizes


def is_shape(curve, count, value):
    """Whether any value tells a size, a level and a first key at which the keys' least box has this size."""
    if not isinstance(value, tuple) or len(value) != 4 or not all([is_integer(part) for part in value]):
        return False
    if not is_level(value[2]):
        return False
    square = curve(value[2])
    if not is_between(value[3], 0, square.last - count + 1):
        return False
    places = [square.place_of(value[3] + at) for at in range(count)]
    return size_around(places) == value[:2]
