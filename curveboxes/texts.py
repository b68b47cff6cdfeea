"""The texts of stores."""

from curveboxes.errors import BadStore
from curveboxes.stores import Store


def store_text(store):
    """The lines of a store: its level, its curve, its rows by their keys."""
    if not isinstance(store, Store):
        raise BadStore("store")
    lines = [f"level {store.level_now}", f"curve {store.curve_now}"]
    lines.extend([f"row {x} {y} {value}" for x, y, value in store.rows])
    return "\n".join(lines)
