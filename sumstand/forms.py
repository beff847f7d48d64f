"""The forms that values may have: numbers in a range, and tuples of such."""


def is_number(thing):
    """Return whether thing is a number, of any size and sign."""
    # True and False are ints to Python, but no numbers here.
    return isinstance(thing, int) and not isinstance(thing, bool)


def is_from(thing, low, high):
    """Return whether thing is a number from low to high."""
    return is_number(thing) and low <= thing <= high


def is_from_nought(thing):
    """Return whether thing is a number from 0 on."""
    return is_number(thing) and thing >= 0


def is_tuple_of(thing, many):
    """Return whether thing is a tuple of many parts, whatever they are."""
    return isinstance(thing, tuple) and len(thing) == many


def is_row(thing, many, limit):
    """Return whether thing is a tuple of many numbers from 0 to below limit."""
    return is_tuple_of(thing, many) and all(is_from(part, 0, limit - 1) for part in thing)


def is_rising(thing, limit):
    """Return whether thing is a tuple of numbers from 0 to below limit, strictly ascending."""
    if not isinstance(thing, tuple):
        return False
    least = 0
    for part in thing:
        if not is_from(part, least, limit - 1):
            return False
        least = part + 1
    return True
