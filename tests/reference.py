"""Curves done slowly and plainly, straight from their definition; and some curves to try."""

import random


def grown(rows, level):
    """For each place of a level its key and its state."""
    found = {(0, 0): (0, 0)}
    for _ in range(level):
        found = {
            (2 * x + quarter % 2, 2 * y + quarter // 2): (4 * key + digit, after)
            for (x, y), (key, state) in found.items()
            for digit, (quarter, after) in enumerate(rows[state])
        }
    return found


def keys_of(rows, level):
    return {place: key for place, (key, _) in grown(rows, level).items()}


def orders(rows, state, deep):
    """How a state orders the quarters, and again these, so many levels deep."""
    if deep == 0:
        return ()
    return tuple((quarter, orders(rows, after, deep - 1)) for quarter, after in rows[state])


def met_states(rows):
    met = {0}
    while True:
        more = met | {after for state in met for _, after in rows[state]}
        if more == met:
            return met
        met = more


def random_rows(chance, many):
    return [[(quarter, chance.randrange(many)) for quarter in chance.sample(range(4), 4)] for _ in range(many)]


def some_rows(count, most=5):
    """Rows of curves that are alike at each run; few orders, so that alike states come up."""
    chance = random.Random(7)
    found = []
    for at in range(count):
        many = 1 + at % most
        rows = random_rows(chance, many)
        if at % 3 == 0:
            orders_now = [chance.sample(range(4), 4) for _ in range(2)]
            rows = [[(quarter, chance.randrange(many)) for quarter in chance.choice(orders_now)] for _ in range(many)]
        found.append(rows)
    return found
