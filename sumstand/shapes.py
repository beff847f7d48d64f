"""Shapes: how many shelves there are, how wide their cells are, and the table of the sums."""

from sumstand.errors import BadShape, BadShelf
from sumstand.fields import is_prime
from sumstand.forms import is_from, is_rising, is_row, is_tuple_of

GREATEST_WIDE = 32
GREATEST_DATA = 6
GREATEST_SUMS = 5
GREATEST_LOST = 3


def made_shape(thing):
    """Return thing if it is a shape (p, wide, n, table, e); raise BadShape otherwise."""
    if not is_tuple_of(thing, 5):
        raise BadShape(-1)
    p, wide, n, table, e = thing
    if not is_prime(p):
        raise BadShape(0)
    if not is_from(wide, 1, GREATEST_WIDE):
        raise BadShape(1)
    if not is_from(n, 1, GREATEST_DATA):
        raise BadShape(2)
    if not is_table(table, n, p):
        raise BadShape(3)
    if not is_from(e, 0, GREATEST_LOST):
        raise BadShape(4)
    return thing


def column(shape, x, kept):
    """Return the column x of the table as the sums in kept have it."""
    made_shape(shape)
    check_data_number(shape, x)
    if not is_rising(kept, sum_count(shape)):
        raise BadShelf(-1)
    return tuple(shape[3][j][x] for j in kept)


def is_table(thing, n, p):
    """Return whether thing is a table of sums over n data, with numbers below p."""
    if not isinstance(thing, tuple) or len(thing) > GREATEST_SUMS:
        return False
    return all(is_row(row, n, p) for row in thing)


def sum_count(shape):
    """Return how many sums a shape has."""
    return len(shape[3])


def shelf_count(shape):
    """Return how many shelves a shape has, sums and data."""
    return len(shape[3]) + shape[2]


def check_data_number(shape, x):
    """Raise BadShelf unless x is the number of one of the data."""
    if not is_from(x, 0, shape[2] - 1):
        raise BadShelf(x)


def is_loss(shape, thing):
    """Return whether thing is a loss: a rising tuple of shelves."""
    return is_rising(thing, shelf_count(shape))


def check_loss(shape, lost):
    """Raise BadShelf unless lost is a loss."""
    if not is_loss(shape, lost):
        raise BadShelf(-1)


def is_shape(thing):
    """Return whether thing is a shape."""
    try:
        made_shape(thing)
    except BadShape:
        return False
    return True
