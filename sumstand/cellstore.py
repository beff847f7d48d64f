"""The data cells of an array, by their addresses."""

from sumstand.batches import change
from sumstand.errors import BadAddress, BadWrite, Unwhole
from sumstand.forms import is_from, is_tuple_of
from sumstand.mending import ask
from sumstand.shelves import data_if_whole
from sumstand.stripes import is_cell, with_cell


class Cells:
    """The data cells of an array: data x of a row has the address x * rows + row."""

    def __init__(self, array):
        self.array = array

    def size(self):
        """Return how many addresses there are."""
        return self.array.shape[2] * self.array.rows

    def look(self, a):
        """Return the cell that is told at an address, if its row is whole."""
        if not is_address(self, a):
            raise BadAddress(a)
        x, row = divmod(a, self.array.rows)
        return data_of_whole(self.array, row)[x]

    def drive(self, writes):
        """Return the code that writes cells at addresses, one deed behind the other."""
        check_writes(self, writes)
        code = []
        # Of each row that was met the data that are told when the code so far is done.
        told = {}
        for a, cell in writes:
            x, row = divmod(a, self.array.rows)
            if row not in told:
                mend, told[row] = ask(self.array, row)
                code.extend(mend)
            code.extend(change(self.array, row, told[row], x, cell))
            told[row] = with_cell(told[row], x, cell)
        return tuple(code)


def glance(cells):
    """Return a function that looks as cells do, but at each row just once, as it is when it is first come to."""
    told = {}

    def look(a):
        if not is_address(cells, a):
            raise BadAddress(a)
        x, row = divmod(a, cells.array.rows)
        if row not in told:
            told[row] = data_of_whole(cells.array, row)
        return told[row][x]

    return look


def data_of_whole(array, row):
    """Return the data of a row; raise Unwhole if it is not whole."""
    data = data_if_whole(array, row)
    if data is None:
        raise Unwhole(row)
    return data


def check_writes(cells, writes):
    """Raise BadWrite unless writes are pairs of an address and a cell."""
    if not isinstance(writes, tuple):
        raise BadWrite(-1)
    for index, pair in enumerate(writes):
        if not is_tuple_of(pair, 2) or not is_address(cells, pair[0]) or not is_cell(cells.array.shape, pair[1]):
            raise BadWrite(index)


def is_address(cells, thing):
    """Return whether thing is an address of cells."""
    return is_from(thing, 0, cells.size() - 1)
