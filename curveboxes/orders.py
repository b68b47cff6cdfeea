"""Rows of numbers in Python's order."""


def ascending(rows):
    """The list of the rows in Python's order, each once.

    It merges by itself, as `sorted` is for plain numbers where a package has classes that compare.
    """
    runs = [[row] for row in rows]
    while len(runs) > 1:
        pairs = [runs[at:at + 2] for at in range(0, len(runs), 2)]
        runs = [merged_runs(pair[0], pair[-1]) for pair in pairs]
    return [row for run in runs for row in run]


def merged_runs(ones, others):
    """The rows of two ascending lists in one, each once."""
    found = []
    at = 0
    to = 0
    while at < len(ones) and to < len(others):
        if ones[at] < others[to]:
            found.append(ones[at])
            at += 1
        else:
            # Of equal rows the second list's one is taken.
            if ones[at] == others[to]:
                at += 1
            found.append(others[to])
            to += 1
    return found + ones[at:] + others[to:]


def is_ascending(rows):
    """Whether rows that can be compared stand in Python's order, each once."""
    return all([one < other for one, other in zip(rows, rows[1:])])
