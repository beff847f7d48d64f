"""Code: batches of writes, what a stop leaves of them, and the code of a deed."""

from sumstand.errors import BadCell, BadCode, BadStop
from sumstand.forms import is_from, is_rising, is_tuple_of
from sumstand.mending import ask
from sumstand.shapes import check_data_number
from sumstand.shelves import LOST, check_row
from sumstand.stripes import is_cell, right_row, with_cell


def made_code(array, code):
    """Return code if it is a tuple of batches for an array; raise BadCode otherwise."""
    if not isinstance(code, tuple):
        raise BadCode(-1)
    for index, batch in enumerate(code):
        if not is_batch(array, batch):
            raise BadCode(index)
    return code


def do(array, code):
    """Do all writes of the code."""
    made_code(array, code)
    for batch in code:
        write_all(array, batch)


def stopped(array, code, many, came):
    """Do the first many batches of the code, and of the next one the writes whose indices came."""
    made_code(array, code)
    if not is_from(many, 0, len(code)):
        raise BadStop(0)
    torn = code[many] if many < len(code) else ()
    if not is_rising(came, len(torn)):
        raise BadStop(1)
    for batch in code[:many]:
        write_all(array, batch)
    write_all(array, [torn[index] for index in came])


def deed(array, row, x, cell):
    """Return the code that makes data x of a row be a cell."""
    check_row(array, row)
    check_data_number(array.shape, x)
    if not is_cell(array.shape, cell):
        raise BadCell(0)
    code, data = ask(array, row)
    return code + change(array, row, data, x, cell)


def change(array, row, data, x, cell):
    """Return the code that takes a row from the right row of data to that with a cell as data x."""
    if data[x] == cell:
        return ()
    ahead = right_row(array.shape, data)
    behind = right_row(array.shape, with_cell(data, x, cell))
    return (tuple(
        (shelf, row, due)
        for shelf, due in enumerate(behind)
        if due != ahead[shelf] and array.state(shelf) != LOST
    ),)


def write_all(array, writes):
    """Do writes, one behind the other."""
    for shelf, row, cell in writes:
        array.put(shelf, row, cell)


def is_batch(array, thing):
    """Return whether thing is a batch: writes in one row of an array, one or more, their shelves rising."""
    if not isinstance(thing, tuple) or not thing:
        return False
    if not all(is_write(array, write) for write in thing):
        return False
    shelves = tuple(shelf for shelf, _, _ in thing)
    return is_rising(shelves, array.shelf_numbers()) and all(row == thing[0][1] for _, row, _ in thing)


def is_write(array, thing):
    """Return whether thing is a write (shelf, row, cell) to a shelf that an array tells of."""
    if not is_tuple_of(thing, 3):
        return False
    shelf, row, cell = thing
    if not is_from(shelf, 0, array.shelf_numbers() - 1) or not is_from(row, 0, array.rows - 1):
        return False
    return is_cell(array.shape, cell)
