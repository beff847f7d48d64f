"""Spots: single cells that are wrong, and the shapes by which they are told."""

from itertools import combinations

from sumstand.errors import Spoilt
from sumstand.mending import mend_row
from sumstand.shapes import made_shape


def clean(shape):
    """Return whether a row of a shape with one wrong cell is told right, if the shape stands."""
    made_shape(shape)
    p, _, n, table, e = shape
    if len(table) != e + 2:
        return False
    if any(number == 0 for row in table for number in row):
        return False
    for x, y in combinations(range(n), 2):
        if not are_unlike(table, x, y, p):
            return False
    return True


def spots(array):
    """Return the row and the shelf of each wrong cell that is the only wrong one of its row."""
    found = []
    for row in range(array.rows):
        batch = mend_or_none(array, row)
        if len(batch) == 1:
            shelf, _, _ = batch[0]
            found.append((row, shelf))
    return tuple(found)


def are_unlike(table, x, y, p):
    """Return whether two columns of a table are no multiples of each other on any two rows."""
    for j, k in combinations(range(len(table)), 2):
        if (table[j][x] * table[k][y] - table[j][y] * table[k][x]) % p == 0:
            return False
    return True


def mend_or_none(array, row):
    """Return the batch that mends a row, () if it is whole or spoilt."""
    try:
        return mend_row(array, row)
    except Spoilt:
        return ()
