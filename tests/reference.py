"""Curves done slowly and plainly, straight from their definition; and some curves to try."""

import random


def grown(rows, level):
    """For each place of a level its key and its state."""
    found = {(0, 0): (0, 0)}
    for _ in range(level):
        found = {
            (2 * x + quarter % 2, 2 * y + quarter // 2): (4 * key + digit, after)
            for (x, y), (key, state) in found.items()
            for digit, (quarter, after) in enumerate(rows[state])
        }
    return found


def keys_of(rows, level):
    return {place: key for place, (key, _) in grown(rows, level).items()}


def orders(rows, state, deep):
    """How a state orders the quarters, and again these, so many levels deep."""
    if deep == 0:
        return ()
    return tuple((quarter, orders(rows, after, deep - 1)) for quarter, after in rows[state])


def met_states(rows):
    met = {0}
    while True:
        more = met | {after for state in met for _, after in rows[state]}
        if more == met:
            return met
        met = more


def random_rows(chance, many):
    return [[(quarter, chance.randrange(many)) for quarter in chance.sample(range(4), 4)] for _ in range(many)]


def some_rows(count, most=5):
    """Rows of curves that are alike at each run; few orders, so that alike states come up."""
    chance = random.Random(7)
    found = []
    for at in range(count):
        many = 1 + at % most
        rows = random_rows(chance, many)
        if at % 3 == 0:
            orders_now = [chance.sample(range(4), 4) for _ in range(2)]
            rows = [[(quarter, chance.randrange(many)) for quarter in chance.choice(orders_now)] for _ in range(many)]
        found.append(rows)
    return found


def turned_about(places, turns, is_mirrored, is_reversed):
    """For each key of a level its place in a form of a curve, from the list of its places in the curve."""
    side = max(x for x, _ in places)
    found = places
    if is_mirrored:
        found = [(y, x) for x, y in found]
    for _ in range(turns):
        found = [(side - y, x) for x, y in found]
    return found[::-1] if is_reversed else found


def places_of(rows, level):
    """The places of a level by their keys."""
    told = keys_of(rows, level)
    return sorted(told, key=told.get)


def boxes_in(side):
    """The tuples (x, y, width, height) of all boxes of a square of this side."""
    for x in range(side):
        for y in range(side):
            for width in range(1, side - x + 1):
                for height in range(1, side - y + 1):
                    yield x, y, width, height


def cells(x, y, width, height):
    return [(x + a, y + b) for b in range(height) for a in range(width)]


def stretches(keys):
    """The list of the stretches of consecutive keys."""
    found = []
    for key in sorted(keys):
        if found and found[-1][1] == key - 1:
            found[-1] = (found[-1][0], key)
        else:
            found.append((key, key))
    return found


# Curves whose steps all go to neighbours, also over corners, from a search by hand; the last one has deep joints.
NEAR = (
    "0>1 1>0 3>0 2>2 / 0>0 2>3 3>1 1>4 / 3>4 1>2 0>2 2>0 / 0>0 2>5 3>6 1>4 / 3>2 2>7 0>8 1>9 / 0>1 1>0 2>10 3>8"
    " / 2>11 0>8 3>1 1>4 / 3>2 2>4 1>11 0>12 / 2>9 0>4 1>5 3>10 / 2>8 3>11 0>4 1>3 / 1>12 0>10 2>10 3>8"
    " / 2>13 3>1 1>7 0>12 / 1>10 3>12 2>12 0>11 / 2>8 3>11 0>4 1>1",
    "0>1 1>0 3>0 2>2 / 0>0 2>3 3>4 1>5 / 3>5 1>6 0>7 2>8 / 0>1 1>0 2>9 3>10 / 2>10 3>11 0>5 1>1 / 3>2 2>6 0>10 1>12"
    " / 3>2 2>5 1>11 0>13 / 1>13 0>8 2>3 3>10 / 1>7 3>13 0>2 2>0 / 1>13 0>8 2>1 3>3 / 2>14 0>4 1>0 3>3"
    " / 2>4 1>10 3>13 0>6 / 2>10 3>14 0>5 1>1 / 1>15 3>8 2>6 0>11 / 2>10 3>11 1>14 0>13 / 1>8 0>2 2>1 3>3",
    "2>1 0>2 1>3 3>4 / 2>2 3>5 1>6 0>7 / 2>8 0>0 3>5 1>9 / 0>5 1>3 3>3 2>10 / 0>5 1>3 2>11 3>12 / 0>3 2>5 3>5 1>13"
    " / 3>10 2>13 1>8 0>7 / 1>11 3>7 2>7 0>1 / 2>0 3>14 1>10 0>6 / 3>10 2>6 0>0 1>14 / 3>13 1>10 0>10 2>3"
    " / 1>7 0>15 2>15 3>12 / 2>8 0>14 1>3 3>4 / 3>6 0>10 2>5 1>2 / 2>0 3>8 0>9 1>5 / 1>7 0>15 2>15 3>0",
)
# A curve whose first step to no neighbour is that from the key 221455 of the level 10.
FAR = (
    "3>1 1>0 0>0 2>2 / 3>0 2>1 0>1 1>3 / 0>3 1>2 3>2 2>0 / 0>2 2>4 3>5 1>6 / 0>3 1>2 2>7 3>8 / 2>8 3>5 1>5 0>9"
    " / 2>5 0>8 3>3 1>1 / 1>10 0>0 2>3 3>11 / 2>5 0>6 1>11 3>7 / 1>7 3>9 2>9 0>5 / 1>9 0>12 3>2 2>0 / 0>2 2>3 1>13 3>7"
    " / 1>14 2>9 0>13 3>4 / 2>5 0>13 1>13 3>7 / 1>10 3>9 0>0 2>2"
)

# Near curves with just 2000 and 2001 chains in the tables for 16 keys.
CHAINS_2000 = (
    "2>1 0>2 1>3 3>4 / 2>2 1>0 3>5 0>6 / 2>7 0>0 3>8 1>9 / 0>8 1>10 2>11 3>0 / 1>12 0>13 2>3 3>0 / 1>4 3>12 2>6 0>1"
    " / 3>9 1>13 2>5 0>1 / 2>0 3>2 1>13 0>6 / 0>3 3>10 2>9 1>2 / 3>6 0>14 2>8 1>2 / 0>3 3>8 1>13 2>12"
    " / 1>12 0>13 2>8 3>3 / 1>5 0>11 3>10 2>14 / 3>6 1>7 0>4 2>12 / 3>9 1>6 0>11 2>12"
)
CHAINS_2001 = (
    "2>1 0>2 1>3 3>4 / 2>5 0>0 3>6 1>7 / 3>8 0>9 2>6 1>1 / 0>6 1>4 3>10 2>9 / 0>3 2>6 1>0 3>11 / 2>1 1>0 3>12 0>8"
    " / 0>3 2>4 3>5 1>1 / 3>9 2>7 0>2 1>6 / 3>2 1>9 2>12 0>5 / 3>2 1>13 0>14 2>10 / 1>11 3>12 0>9 2>3"
    " / 1>12 0>10 2>4 3>0 / 1>11 3>10 2>8 0>5 / 3>9 2>2 1>5 0>12 / 1>10 2>12 0>0 3>4"
)
# Curves with just 2000 and 2001 windows in the tables of the size (4, 4).
WINDOWS_2000 = (
    "3>1 1>2 0>2 2>3 / 1>4 3>1 2>1 0>5 / 2>0 0>1 1>3 3>5 / 1>2 3>3 2>3 0>1 / 3>2 0>1 2>5 1>5 / 3>0 1>4 2>3 0>5"
)
WINDOWS_2001 = "1>1 2>2 3>2 0>2 / 2>3 1>0 0>1 3>4 / 0>0 3>2 2>4 1>4 / 0>4 1>0 2>1 3>2 / 1>4 3>0 0>1 2>0"
# Curves for which the last windows of the size (2, 1) occur at the levels 100 and 101 for the first time.
LEVELS_100 = (
    "0>1 1>1 3>0 2>0 / 0>2 1>2 2>0 3>0 / 0>3 1>3 2>0 3>0 / 0>4 1>4 2>0 3>0 / 0>5 1>5 2>0 3>0 / 0>6 1>6 2>0 3>0"
    " / 0>7 1>7 2>0 3>0 / 0>8 1>8 2>0 3>0 / 0>9 1>9 2>0 3>0 / 0>10 1>10 2>0 3>0 / 0>0 1>11 2>0 3>0 / 0>7 1>12 2>0 3>0"
    " / 0>3 1>0 2>0 3>0"
)
LEVELS_101 = (
    "0>1 1>1 3>0 2>0 / 0>2 1>2 2>0 3>0 / 0>3 1>3 2>0 3>0 / 0>4 1>4 2>0 3>0 / 0>5 1>5 2>6 3>0 / 0>7 1>7 2>0 3>0"
    " / 0>8 1>8 2>0 3>0 / 0>9 1>9 2>0 3>0 / 0>2 1>10 2>0 3>0 / 0>11 1>11 2>0 3>0 / 0>9 1>12 2>0 3>0 / 0>0 1>13 2>0 3>0"
    " / 0>13 1>0 2>0 3>0 / 0>5 1>8 2>0 3>0"
)
