"""Looking at the papers of judging: whether they are right, without a search."""

from curveboxes.boxes import Box
from curveboxes.checks import is_between, is_integer, is_level, is_pair
from curveboxes.judging import MORE, Always, Breach, Numbers, Twin, has_more
from curveboxes.needs import need_curve, need_many, need_size
from curveboxes.orders import is_ascending
from curveboxes.rules import need_rule
from curveboxes.windows import WINDOWS, family, is_window, mark_of, refined_marks, window_at, ways_between


def shows_judge(curve, rule, value):
    """Whether any value is an Always with closed tables for which a rule holds, or a Breach of the rule."""
    need_curve(curve, "curve")
    need_rule(rule, "rule")
    size = (rule.width, rule.height)
    if isinstance(value, Breach):
        box = box_at(size, value.level, value.x, value.y)
        return box is not None and not rule.holds_for(window_at(curve(value.level), box))
    if not isinstance(value, Always) or not are_closed((curve,), size, value.tables):
        return False
    return all([rule.holds_for(window) for window in value.tables[size]])


def shows_numbers(curve, width, height, value):
    """Whether any value is a Numbers with closed tables and the numbers of these, each at a box that has it."""
    need_curve(curve, "curve")
    need_size(width, height)
    size = (width, height)
    if not isinstance(value, Numbers) or not are_closed((curve,), size, value.tables):
        return False
    if not are_rows(curve, size, value.rows):
        return False
    told = {row[0]: True for row in value.rows}
    found = {window.ranges: True for window in value.tables[size]}
    return told == found


def shows_never_more(one, other, width, height, more, value):
    """Whether any value is an Always with closed tables of Twins without too many ranges, or a Breach."""
    need_curve(one, "one")
    need_curve(other, "other")
    need_size(width, height)
    need_many(more, -MORE, MORE)
    size = (width, height)
    if isinstance(value, Breach):
        box = box_at(size, value.level, value.x, value.y)
        return box is not None and has_more(twin_at(one, other, value.level, box), more)
    if not isinstance(value, Always) or not are_closed((one, other), size, value.tables):
        return False
    return not any([has_more(twin, more) for twin in value.tables[size]])


def box_at(size, level, x, y):
    """The box of a size with this lower left place of a level, or None if any of these values makes none."""
    if not is_level(level):
        return None
    side = 1 << level
    if not is_between(x, 0, side - size[0]) or not is_between(y, 0, side - size[1]):
        return None
    return Box(x, y, size[0], size[1])


def twin_at(one, other, level, box):
    """The Twin of the windows that two curves have at a box of a level."""
    return Twin(window_at(one(level), box), window_at(other(level), box))


def are_rows(curve, size, rows):
    """Whether any value is an ascending tuple of numbers of ranges with boxes of a size that have them."""
    if not isinstance(rows, tuple) or not all([is_number_row(row) for row in rows]) or not is_ascending(rows):
        return False
    return all([is_told_right(curve, size, row) for row in rows])


def is_number_row(value):
    """Whether any value is a tuple of four integers."""
    return isinstance(value, tuple) and len(value) == 4 and all([is_integer(part) for part in value])


def is_told_right(curve, size, row):
    """Whether the box that a row tells has its number of ranges."""
    number, level, x, y = row
    box = box_at(size, level, x, y)
    return box is not None and window_at(curve(level), box).ranges == number


def are_closed(curves, size, tables):
    """Whether any value is a dict of closed tables for a size, with what some curves have at the same places."""
    sizes = family(size[0], size[1])
    if not are_tables(curves, sizes, tables):
        return False
    known = {marks_of(part): True for parts in tables.values() for part in parts}
    ways = ways_between(sizes)
    for marks in known:
        for x, y, after in ways[marks[0][:2]]:
            if refined_marks(curves, marks, x, y, after) not in known:
                return False
    return tuple([(1, 1, (0,), ()) for _ in curves]) in known


def are_tables(curves, sizes, tables):
    """Whether any value is a dict from just these sizes to lists or tuples of what the curves can have there."""
    if not isinstance(tables, dict) or len(tables) != len(sizes):
        return False
    if not all([is_pair(size) and size in sizes for size in tables]):
        return False
    if not all([isinstance(parts, (list, tuple)) for parts in tables.values()]):
        return False
    if sum([len(parts) for parts in tables.values()]) > WINDOWS:
        return False
    return all([is_part(curves, size, part) for size, parts in tables.items() for part in parts])


def is_part(curves, size, value):
    """Whether any value is a window of a size, for two curves a Twin of such, of the states of the curves."""
    if len(curves) == 1:
        return is_window_of(curves[0], size, value)
    return (isinstance(value, Twin) and is_window_of(curves[0], size, value.one)
            and is_window_of(curves[1], size, value.other))


def is_window_of(curve, size, value):
    """Whether any value is a window of a size and of the states of a curve."""
    return is_window(value, len(curve)) and (value.width, value.height) == size


def marks_of(part):
    """The tuple of the windows of a window or a Twin, each as a tuple."""
    if isinstance(part, Twin):
        return mark_of(part.one), mark_of(part.other)
    return (mark_of(part),)
