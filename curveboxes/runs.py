"""Runs of consecutive keys: the chains that they have, and those that these lead to a level on.

A chain is a tuple (states, steps). A way is a pair (number, offset): from the chain of some places to that of so many
of their quarters, from the quarter with this index on. The ways stand in a dict by the numbers of these places, where
they are all needed.
"""

# The chain of the one place of level 0.
START = ((0,), ())


def due(number):
    """The ascending list of a number of keys, the numbers of their parents' keys, and so on."""
    found = {number: True}
    fresh = [number]
    while fresh:
        several = fresh.pop()
        for offset in range(4):
            parents = parents_of(several, offset)
            if parents not in found:
                found[parents] = True
                fresh.append(parents)
    return sorted([int(several) for several in found])


def parents_of(number, offset):
    """How many parents so many consecutive keys have that begin with this digit."""
    return (number + offset + 3) // 4


def ways_of(numbers):
    """For each of the numbers of keys the ways to chains of these numbers."""
    ways = {number: [] for number in numbers}
    for number in numbers:
        for offset in range(4):
            ways[parents_of(number, offset)].append((number, offset))
    return ways


def walked(steps):
    """The list of the places that steps lead to, from (0, 0) on."""
    places = [(0, 0)]
    for x, y in steps:
        places.append((places[-1][0] + x, places[-1][1] + y))
    return places


def steps_between(places):
    """The tuple of the steps from place to place."""
    return tuple([(after[0] - place[0], after[1] - place[1]) for place, after in zip(places, places[1:])])


def grown(curve, chain):
    """The chain of all quarters of the places of a chain."""
    states = []
    places = []
    for state, (x, y) in zip(chain[0], walked(chain[1])):
        for quarter, after in curve.rows[state]:
            states.append(after)
            places.append((2 * x + (quarter & 1), 2 * y + (quarter >> 1)))
    return tuple(states), steps_between(places)


def led(curve, chain, ways):
    """The list of the pairs (offset, chain) that a chain leads to on these ways."""
    states, steps = grown(curve, chain)
    return [(offset, part_of(states, steps, number, offset)) for number, offset in ways]


def part_of(states, steps, number, offset):
    """The chain of so many places of a longer one."""
    return states[offset:offset + number], steps[offset:offset + number - 1]


def chains_on(curve, layer, ways, found):
    """The chains, with their least keys, a level on from a layer of such, without those that are found already.

    A chain that occurs at a level for the first time comes from one of which this was true a level ahead, and at its
    least key from that one's: so all least levels and keys are found from layer to layer.
    """
    fresh = {}
    for chain, key in layer.items():
        for offset, after in led(curve, chain, ways[len(chain[0])]):
            if after not in found:
                fresh[after] = min(int(4 * key + offset), fresh.get(after, 4 * key + offset))
    return fresh


def is_near(step):
    """Whether the differences of a step are from -1 to 1."""
    return -1 <= step[0] <= 1 and -1 <= step[1] <= 1


def are_near(steps):
    """Whether this holds for all steps."""
    return all([is_near(step) for step in steps])
