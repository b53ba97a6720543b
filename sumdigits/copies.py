"""Copies that what is done to a value afterwards does not reach."""


def kept(value):
    """A value with copies of its lists and dicts, also of those within others; other values are kept as they are."""
    if isinstance(value, tuple):
        if not any([isinstance(part, (tuple, list, dict)) for part in value]):
            return value
        return tuple([kept(part) for part in value])
    if isinstance(value, list):
        return [kept(part) for part in value]
    if isinstance(value, dict):
        return {key: kept(part) for key, part in value.items()}
    return value
