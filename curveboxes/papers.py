"""What papers are made of: any values, which stay as they are."""


def kept(value):
    """The value, with copies of the lists and dicts in it, so that it stays as it is when these change."""
    if not has_changing(value):
        return value
    if isinstance(value, dict):
        return {key: kept(part) for key, part in value.items()}
    parts = [kept(part) for part in value]
    return tuple(parts) if isinstance(value, tuple) else parts


def has_changing(value):
    """Whether any value is a list or a dict, or a tuple with one in it."""
    if isinstance(value, (list, dict)):
        return True
    return isinstance(value, tuple) and any([has_changing(part) for part in value])
