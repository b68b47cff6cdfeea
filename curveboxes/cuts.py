"""How a box cuts a square into blocks: the whole square, its quarters, the quarters of these and so on.

A block is a tuple (height, state, part, first): how many levels stand below its place, the state of its place, which
of its columns and rows are in the box, as (left, right, low, top) from its own corner, or None, and its first key.
"""


def whole(square, box):
    """The block of the whole square."""
    return square.level, 0, (box.x, box.right, box.y, box.top), 0


def is_out(block):
    """Whether no place of a block is in the box."""
    return block[2] is None


def is_full(block):
    """Whether all places of a block are in the box."""
    end = (1 << block[0]) - 1
    return block[2] == (0, end, 0, end)


def last_of(block):
    """The last key of a block."""
    return block[3] + (1 << (2 * block[0])) - 1


def quarters(curve, block):
    """The list of the blocks of the quarters of a block, by their keys."""
    height, state, part, first = block
    many = 1 << (2 * (height - 1))
    found = []
    for digit, (quarter, after) in enumerate(curve.rows[state]):
        found.append((height - 1, after, quarter_part(part, quarter, height - 1), first + digit * many))
    return found


def quarter_part(part, quarter, height):
    """The part of a quarter, which has this height, of a block with this part; None if it has none."""
    side = 1 << height
    x = side * (quarter & 1)
    y = side * (quarter >> 1)
    left = max(0, part[0] - x)
    right = min(int(side - 1), part[1] - x)
    low = max(0, part[2] - y)
    top = min(int(side - 1), part[3] - y)
    if left > right or low > top:
        return None
    return left, right, low, top


def measures(curve, block):
    """What `measured` tells of all kinds of blocks, from this one down, of which a part is in the box.

    Along the sides of a box there are many blocks, but at each height only few kinds of them: (height, state, part).
    """
    tiers = [[block]]
    while tiers[-1]:
        tiers.append(kinds_below(curve, tiers[-1]))
    known = {}
    for tier in tiers[::-1]:
        for part in tier:
            if not is_full(part):
                known[part[:3]] = measured_by_quarters(curve, part, known)
    return known


def kinds_below(curve, tier):
    """One block of each kind among the quarters of some blocks, if a part of it, but not all, is in the box."""
    found = {}
    for block in tier:
        if not is_full(block):
            for quarter in quarters(curve, block):
                if not is_out(quarter) and not is_full(quarter):
                    found[quarter[:3]] = quarter
    return list(found.values())


def measured(block, known):
    """How many ranges a block has, and whether its first and its last key are in the box."""
    if is_out(block):
        return 0, False, False
    if is_full(block):
        return 1, True, True
    return known[block[:3]]


def measured_by_quarters(curve, block, known):
    """What `measured` tells, from the quarters of a block."""
    parts = [measured(quarter, known) for quarter in quarters(curve, block)]
    many = sum([part[0] for part in parts])
    for one, other in zip(parts, parts[1:]):
        if one[2] and other[1]:
            many -= 1
    return many, parts[0][1], parts[3][2]


def begin_of(curve, block, n, known):
    """The first key of the range with this index, counted by ascending keys, of a block."""
    is_open = False
    while not is_full(block):
        block, n, is_open = quarter_with(curve, block, n, is_open, known)
    return block[3]


def quarter_with(curve, block, n, is_open, known):
    """The quarter of a block in which its n-th range begins, its index there, and whether a range reaches it.

    `is_open` tells whether the key ahead of the block is in the box: then the block's first range began ahead of it.
    """
    found = None
    for quarter in quarters(curve, block):
        many, first_in, last_in = measured(quarter, known)
        if is_open and first_in:
            many -= 1
        if n < many:
            found = quarter
            break
        n -= many
        is_open = last_in
    return found, n, is_open


def nearest(curve, block, key, is_in, is_up):
    """The nearest key of a block from this one on, up or down, that is in the box, or is not, as `is_in` asks."""
    stack = [block]
    while stack:
        part = stack.pop()
        first = part[3]
        last = last_of(part)
        if (is_up and last < key) or (not is_up and key < first):
            continue
        if not is_out(part) and not is_full(part):
            below = quarters(curve, part)
            stack.extend(below[::-1] if is_up else below)
        elif is_in == is_full(part):
            return max(int(first), key) if is_up else min(int(last), key)
    return None


def full_blocks(curve, block):
    """The ascending list of the stretches of keys of the greatest blocks that are in the box."""
    found = []
    stack = [block]
    while stack:
        part = stack.pop()
        if is_full(part):
            found.append((part[3], last_of(part)))
        elif not is_out(part):
            below = quarters(curve, part)
            stack.extend(below[::-1])
    return found
