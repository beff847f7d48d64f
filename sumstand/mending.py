"""Mending: the writes that make a row whole that a stop has torn."""

from sumstand.shelves import told_data
from sumstand.stripes import right_row


def mend_row(array, row):
    """Return the batch that writes the told row's cells to the kept shelves that have others."""
    return mend_to(array, row, told_data(array, row))


def ask(array, row):
    """Return the code that makes a row whole, and the data that are told of it."""
    data = told_data(array, row)
    batch = mend_to(array, row, data)
    return ((batch,) if batch else ()), data


def mend_to(array, row, data):
    """Return the batch that makes the kept cells of a row those of the right row of the data."""
    left = array.left(row)
    due = right_row(array.shape, data)
    return tuple(
        (shelf, row, due[shelf])
        for shelf, cell in enumerate(left)
        if cell is not None and cell != due[shelf]
    )
