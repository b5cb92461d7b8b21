"""Copies of arguments."""


def copied(value):
    """Return the value with every list and tuple in it, at every level, as a tuple of its own."""
    if isinstance(value, (list, tuple)):
        return tuple([copied(item) for item in value])
    return value
