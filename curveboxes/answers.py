"""What a desk answers for its store, line by line."""

from curveboxes.boxes import Box
from curveboxes.chains import widest
from curveboxes.covers import cover
from curveboxes.errors import BadLine
from curveboxes.forms import values_in
from curveboxes.joints import Far, joints
from curveboxes.judging import Breach, judge, numbers
from curveboxes.kin import Apart, compare
from curveboxes.makers import cup, laced, ring, turning
from curveboxes.ranges import count, next_key, spans_of
from curveboxes.texts import store_text


def answered(store, line):
    """The answer to a line, for this store; some lines change it."""
    if not isinstance(line, str):
        raise BadLine(0)
    words = line.split(" ")
    if words[0] not in FORMS:
        raise BadLine(0)
    told = values_in(words, FORMS[words[0]])
    answer = ANSWERS[words[0]]
    return answer(store, *told)


def set_curve(store, curve):
    """Exchanges the curve."""
    store.exchange(curve, store.level_now)
    return "ok"


def set_maker(store, name):
    """Exchanges the curve for one with a name."""
    if name == "laced":
        return set_curve(store, laced())
    if name == "cup":
        return set_curve(store, cup())
    if name == "turning":
        return set_curve(store, turning())
    return set_curve(store, ring())


def set_level(store, level):
    """Exchanges the level."""
    store.exchange(store.curve_now, level)
    return "ok"


def tell_key(store, x, y):
    """The key of a place."""
    return str(store.square_now[x, y])


def tell_place(store, key):
    """The place of a key."""
    x, y = store.square_now.place_of(key)
    return f"{x} {y}"


def tell_count(store, x, y, width, height):
    """How many ranges a box has."""
    return str(count(store.square_now, Box(x, y, width, height)))


def tell_spans(store, x, y, width, height):
    """The keys of a box."""
    return str(spans_of(store.square_now, Box(x, y, width, height)))


def tell_next(store, key, x, y, width, height):
    """The next key of a box."""
    found = next_key(store.square_now, Box(x, y, width, height), key)
    return "none" if found is None else str(found)


def tell_cover(store, most, x, y, width, height):
    """A cover of a box."""
    found = cover(store.square_now, Box(x, y, width, height), most)
    return f"{found.spans} over {found.over}"


def tell_judged(store, rule):
    """Whether a rule holds at all levels and places."""
    found = judge(store.curve_now, rule)
    if isinstance(found, Breach):
        return f"breach {found.level} {found.x} {found.y}"
    return "always"


def tell_most(store, width, height):
    """The greatest number of ranges of the boxes of a size."""
    number, level, x, y = numbers(store.curve_now, width, height).rows[-1]
    return f"{number} at {level} {x} {y}"


def tell_joints(store):
    """How many joints there are, or where a step goes far."""
    found = joints(store.curve_now)
    if isinstance(found, Far):
        return f"far {found.level} {found.key}"
    return f"near {len(found.joints)}"


def tell_page(store, many):
    """The widest boxes of so many consecutive keys."""
    return " ".join([f"{width}x{height}" for width, height in widest(store.curve_now, many)])


def tell_same(store, curve):
    """Whether a curve is the store's."""
    found = compare(store.curve_now, curve)
    if isinstance(found, Apart):
        return f"apart {found.level} {found.key}"
    return "same"


def put_row(store, x, y, value):
    """Puts a row."""
    store[x, y] = value
    return "ok"


def take_row(store, x, y):
    """Takes a row out."""
    return str(store.take(x, y))


def tell_row(store, x, y):
    """The value of a row."""
    return str(store[x, y])


def tell_scan(store, x, y, width, height):
    """A scan of a box."""
    found = store.scan(Box(x, y, width, height))
    words = [f"seeks {found.seeks} passed {found.passed}"]
    words.extend([f"{column},{row},{value}" for column, row, value in found.rows])
    return " ".join(words)


def take_back(store):
    """Takes the last deed back."""
    return store.undo()


def tell_all(store):
    """The text of the store in one line."""
    return store_text(store).replace("\n", " | ")


FORMS = {
    "curve": ("curve",), "maker": ("maker",), "level": ("number",),
    "key": ("number", "number"), "place": ("number",),
    "count": ("number", "number", "number", "number"), "spans": ("number", "number", "number", "number"),
    "next": ("number", "number", "number", "number", "number"),
    "cover": ("number", "number", "number", "number", "number"),
    "judge": ("rule",), "most": ("side", "side"), "joints": (), "page": ("number",), "same": ("curve",),
    "put": ("number", "number", "number"), "take": ("number", "number"), "get": ("number", "number"),
    "scan": ("number", "number", "number", "number"), "undo": (), "show": (),
}
ANSWERS = {
    "curve": set_curve, "maker": set_maker, "level": set_level,
    "key": tell_key, "place": tell_place, "count": tell_count, "spans": tell_spans,
    "next": tell_next, "cover": tell_cover,
    "judge": tell_judged, "most": tell_most, "joints": tell_joints, "page": tell_page, "same": tell_same,
    "put": put_row, "take": take_row, "get": tell_row, "scan": tell_scan,
    "undo": take_back, "show": tell_all,
}
