"""Rows across the shelves: data, right rows with their sums, and what is left of rows."""

from sumstand.errors import BadCell
from sumstand.fields import combined
from sumstand.forms import is_row, is_tuple_of
from sumstand.shapes import made_shape, shelf_count


def made_data(shape, data):
    """Return data if they are data of the shape; raise BadCell otherwise."""
    made_shape(shape)
    if not is_tuple_of(data, shape[2]):
        raise BadCell(-1)
    for index, cell in enumerate(data):
        if not is_cell(shape, cell):
            raise BadCell(index)
    return data


def made_left(shape, left):
    """Return left if it is a left row of the shape; raise BadCell otherwise."""
    made_shape(shape)
    if not is_tuple_of(left, shelf_count(shape)):
        raise BadCell(-1)
    for index, cell in enumerate(left):
        if cell is not None and not is_cell(shape, cell):
            raise BadCell(index)
    return left


def sums(shape, data):
    """Return the sums of the data, one for each row of the table."""
    made_data(shape, data)
    return tuple(sum_by(shape, row, data) for row in shape[3])


def stripe(shape, data):
    """Return the right row of the data: their sums, then the data."""
    return sums(shape, data) + data


def lost_of(left):
    """Return the shelves that have no cell in a left row."""
    return tuple(shelf for shelf, cell in enumerate(left) if cell is None)


def is_cell(shape, thing):
    """Return whether thing is a cell of the shape."""
    return is_row(thing, shape[1], shape[0])


def sum_by(shape, row, data):
    """Return the sum of the data, each times its number of a row of the table."""
    total = (0,) * shape[1]
    for factor, cell in zip(row, data):
        total = combined(total, factor, cell, shape[0])
    return total
