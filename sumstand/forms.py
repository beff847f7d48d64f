"""The forms that values may have: numbers in a range, and tuples of such."""


def is_from(thing, low, high):
    """Return whether thing is a number from low to high."""
    # True and False are ints to Python, but no numbers here.
    if not isinstance(thing, int) or isinstance(thing, bool):
        return False
    return low <= thing <= high


def is_tuple_of(thing, many):
    """Return whether thing is a tuple of many parts, whatever they are."""
    return isinstance(thing, tuple) and len(thing) == many


def is_row(thing, many, limit):
    """Return whether thing is a tuple of many numbers from 0 to below limit."""
    return is_tuple_of(thing, many) and all(is_from(part, 0, limit - 1) for part in thing)


def is_rising(thing, limit):
    """Return whether thing is a tuple of numbers from 0 to below limit, strictly ascending."""
    if not isinstance(thing, tuple):
        return False
    least = 0
    for part in thing:
        if not is_from(part, least, limit - 1):
            return False
        least = part + 1
    return True
