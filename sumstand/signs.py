"""Signs: names, and texts as the numbers of their signs."""

# The first ones may stand in names; the last one stands in paths alone.
SIGNS = "abcdefghijklmnopqrstuvwxyz0123456789_-/"
NAME_SIGNS = 38
LONGEST_NAME = 12


def is_name(thing):
    """Return whether thing is a name: a text of 1 to 12 signs."""
    if not isinstance(thing, str) or not 1 <= len(thing) <= LONGEST_NAME:
        return False
    return all(sign in SIGNS[:NAME_SIGNS] for sign in thing)


def numbers_of(text):
    """Return the numbers of the signs of a text."""
    return tuple(SIGNS.index(sign) for sign in text)


def text_of(numbers):
    """Return the text whose signs have these numbers."""
    return "".join([SIGNS[number] for number in numbers])
