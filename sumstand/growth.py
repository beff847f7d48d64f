"""Growth: a new shelf joins the others, the last data shelf leaves, and the last sum goes."""

from sumstand.errors import NoNew, NoSum, NotBlank, NotKept, OnlyOne, TooManyLost
from sumstand.shapes import shelf_count, sum_count
from sumstand.shelves import KEPT, check_no_new, check_standing, check_whole


def blank(array):
    """Return the code that makes all cells of the new shelf nought."""
    check_new(array)
    shelf = shelf_count(array.shape)
    nought = nought_of(array)
    return tuple(
        ((shelf, row, nought),)
        for row in range(array.rows)
        if array.cell(row, shelf) != nought
    )


def join(array):
    """Let the new shelf be the last data shelf; raise NotBlank unless all of its cells are nought."""
    check_new(array)
    check_whole(array)
    check_blank(array, shelf_count(array.shape))
    array.join_new()


def leave(array):
    """Take the last data shelf away; raise NotBlank unless all of its cells are nought."""
    if array.shape[2] == 1:
        raise OnlyOne(0)
    check_no_new(array)
    shelf = shelf_count(array.shape) - 1
    if array.state(shelf) != KEPT:
        raise NotKept(shelf)
    check_whole(array)
    check_blank(array, shelf)
    array.take_data_away()


def sum_less(array):
    """Take the last sum away; e is one less."""
    p, wide, n, table, e = array.shape
    if not table or e == 0:
        raise NoSum(0)
    check_no_new(array)
    check_standing((p, wide, n, table[:-1], e - 1))
    many = unkept_others(array, sum_count(array.shape) - 1)
    if many > e - 1:
        raise TooManyLost(many)
    check_whole(array)
    array.take_sum_away()


def check_new(array):
    """Raise NoNew unless an array has a new shelf."""
    if array.new_column() is None:
        raise NoNew(0)


def check_blank(array, shelf):
    """Raise NotBlank of the first row in which the cell of a shelf is not nought."""
    for row in range(array.rows):
        if array.cell(row, shelf) != nought_of(array):
            raise NotBlank(row)


def nought_of(array):
    """Return the cell of an array that has zeros alone."""
    return (0,) * array.shape[1]


def unkept_others(array, shelf):
    """Return how many shelves but this one are filling or lost."""
    return array.unkept() - (0 if array.state(shelf) == KEPT else 1)
