"""Rows across the shelves: data, right rows with their sums, and what is left of rows."""

from sumstand.errors import BadCell
from sumstand.fields import times
from sumstand.forms import is_row, is_tuple_of
from sumstand.shapes import made_shape, shelf_count


def made_data(shape, data):
    """Return data if they are data of the shape; raise BadCell otherwise."""
    made_shape(shape)
    if not is_tuple_of(data, shape[2]):
        raise BadCell(-1)
    for index, cell in enumerate(data):
        if not is_cell(shape, cell):
            raise BadCell(index)
    return data


def made_left(shape, left):
    """Return left if it is a left row of the shape; raise BadCell otherwise."""
    made_shape(shape)
    if not is_tuple_of(left, shelf_count(shape)):
        raise BadCell(-1)
    for index, cell in enumerate(left):
        if cell is not None and not is_cell(shape, cell):
            raise BadCell(index)
    return left


def sums(shape, data):
    """Return the sums of the data, one for each row of the table."""
    made_data(shape, data)
    return sums_of(shape, data)


def stripe(shape, data):
    """Return the right row of the data: their sums, then the data."""
    made_data(shape, data)
    return right_row(shape, data)


def lost_of(left):
    """Return the shelves that have no cell in a left row."""
    return tuple(shelf for shelf, cell in enumerate(left) if cell is None)


def is_cell(shape, thing):
    """Return whether thing is a cell of the shape."""
    return is_row(thing, shape[1], shape[0])


def is_data(shape, thing):
    """Return whether thing are data of the shape."""
    return is_tuple_of(thing, shape[2]) and all(is_cell(shape, cell) for cell in thing)


def sums_of(shape, data):
    """Return the sums of the data, without asking for their form."""
    return times(shape[3], data, shape[1], shape[0])


def right_row(shape, data):
    """Return the right row of the data, without asking for their form."""
    return sums_of(shape, data) + data


def with_cell(data, x, cell):
    """Return the data with another cell as data x."""
    return data[:x] + (cell,) + data[x + 1:]
