"""Filling: giving replaced shelves the cells that are told, and trusting them then."""

from sumstand.errors import Unlike
from sumstand.shapes import shelf_count
from sumstand.shelves import LOST, check_whole, told_data
from sumstand.stripes import right_row


def fill(array):
    """Return the code that gives the kept and the filling shelves the cells of the told rows."""
    batches = [fill_row(array, row) for row in range(array.rows)]
    return tuple(batch for batch in batches if batch)


def trust(array):
    """Let all filling shelves be kept; raise Torn or Unlike where a cell is not the told one."""
    check_whole(array)
    for row in range(array.rows):
        # Of a whole row nothing is to be written but to filling shelves.
        if fill_row(array, row):
            raise Unlike(row)
    array.keep_filling()


def fill_row(array, row):
    """Return the batch that gives the kept and the filling shelves the told row's cells."""
    due = right_row(array.shape, told_data(array, row))
    return tuple(
        (shelf, row, due[shelf])
        for shelf in range(shelf_count(array.shape))
        if array.state(shelf) != LOST and array.cell(row, shelf) != due[shelf]
    )
