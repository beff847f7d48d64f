"""Arrays: shelves with cells, which of them are kept, and what their rows tell."""

from sumstand.errors import BadCells, BadColumn, BadRow, BadShelf, New, NotLost, NotStanding, Spoilt
from sumstand.errors import TooMany, TooManyLost, Torn
from sumstand.forms import is_from, is_row, is_tuple_of
from sumstand.judge import stands
from sumstand.losses import SolvedLoss
from sumstand.readings import told_standing, whole_data
from sumstand.shapes import GREATEST_DATA, GREATEST_LOST, GREATEST_SUMS, made_shape, shelf_count
from sumstand.stripes import is_cell

GREATEST_ROWS = 64

KEPT = "kept"
FILLING = "filling"
LOST = "lost"
NEW = "new"


class Array:
    """Shelves that each have a cell for each row; at most e of them are not kept."""

    def __init__(self, shape, rows):
        made_shape(shape)
        if not is_from(rows, 1, GREATEST_ROWS):
            raise BadRow(rows)
        check_standing(shape)
        self.shape = shape
        self.rows = rows
        # A list of states and one of cells, by shelf, None for the cells of a lost one; a new shelf comes last.
        self._states = [KEPT for _ in range(shelf_count(shape))]
        self._cells = [[(0,) * shape[1]] * rows for _ in range(shelf_count(shape))]
        self._column = None
        self._loss = None

    def state(self, shelf):
        """Return whether a shelf is kept, filling, lost or new."""
        check_shelf(self, shelf)
        return self._states[shelf]

    def cell(self, row, shelf):
        """Return the cell that lies in a row on a shelf, None if the shelf is lost."""
        check_row(self, row)
        check_shelf(self, shelf)
        return None if self._states[shelf] == LOST else self._cells[shelf][row]

    def left(self, row):
        """Return what is left of a row: the cells of the kept shelves."""
        check_row(self, row)
        return tuple(
            self._cells[shelf][row] if self._states[shelf] == KEPT else None
            for shelf in range(shelf_count(self.shape))
        )

    def lose(self, shelf):
        """Lose a shelf with all its cells; a new one is not there any more."""
        check_shelf(self, shelf)
        if self._states[shelf] == NEW:
            self._take_new_away()
            return
        many = self.unkept()
        if self._states[shelf] == KEPT:
            many += 1
        if many > self.shape[4]:
            raise TooManyLost(many)
        self._states[shelf] = LOST
        self._cells[shelf] = None

    def replace(self, shelf, cells):
        """Put a shelf with any cells in the place of a lost one; it is filling."""
        check_shelf(self, shelf)
        if self._states[shelf] != LOST:
            raise NotLost(shelf)
        check_cells(self, cells)
        self._states[shelf] = FILLING
        self._cells[shelf] = list(cells)

    def new(self, column, cells):
        """Put a new shelf with any cells behind the others; column is to be its column of the table."""
        p, wide, n, table, e = self.shape
        if not is_row(column, len(table), p):
            raise BadColumn(-1)
        if n == GREATEST_DATA:
            raise TooMany(n + 1)
        check_no_new(self)
        check_standing((p, wide, n + 1, with_column(table, column), e))
        check_cells(self, cells)
        self._column = column
        self._states.append(NEW)
        self._cells.append(list(cells))

    def sum_more(self, numbers, cells):
        """Put in one more sum with any cells, filling; numbers are its row of the table, and e grows by 1."""
        p, wide, n, table, e = self.shape
        if not is_row(numbers, n, p):
            raise BadColumn(-1)
        if len(table) == GREATEST_SUMS:
            raise TooMany(len(table) + 1)
        if e == GREATEST_LOST:
            raise TooMany(e + 1)
        check_no_new(self)
        shape = (p, wide, n, table + (numbers,), e + 1)
        check_standing(shape)
        check_cells(self, cells)
        self.shape = shape
        self._states.insert(len(table), FILLING)
        self._cells.insert(len(table), list(cells))

    def keep_filling(self):
        """Let all filling shelves be kept; nothing is asked of their cells."""
        self._states = [KEPT if state == FILLING else state for state in self._states]

    def join_new(self):
        """Let the new shelf be the last data shelf, kept; nothing is asked of its cells."""
        p, wide, n, table, e = self.shape
        self.shape = (p, wide, n + 1, with_column(table, self._column), e)
        self._states[-1] = KEPT
        self._column = None

    def take_data_away(self):
        """Take the last data shelf away, with its column of the table, while there is no new shelf."""
        p, wide, n, table, e = self.shape
        self.shape = (p, wide, n - 1, tuple(row[:-1] for row in table), e)
        self._states.pop()
        self._cells.pop()

    def take_sum_away(self):
        """Take the last sum away, with its row of the table; e is one less."""
        p, wide, n, table, e = self.shape
        self.shape = (p, wide, n, table[:-1], e - 1)
        del self._states[len(table) - 1]
        del self._cells[len(table) - 1]

    def put(self, shelf, row, cell):
        """Write a cell, which falls away on a lost shelf; nothing is asked of its form."""
        if self._states[shelf] != LOST:
            self._cells[shelf][row] = cell

    def shelf_numbers(self):
        """Return how many numbers of shelves there are, that of a new one among them."""
        return len(self._states)

    def new_column(self):
        """Return the column that came with the new shelf, None if there is none."""
        return self._column

    def loss(self):
        """Return what is reckoned of the shelves that are not kept, anew if they are others than before."""
        lost = tuple(shelf for shelf in range(shelf_count(self.shape)) if self._states[shelf] != KEPT)
        if self._loss is None or self._loss.lost != lost or self._loss.shape != self.shape:
            self._loss = SolvedLoss(self.shape, lost)
        return self._loss

    def unkept(self):
        """Return how many shelves are filling or lost."""
        return self._states.count(FILLING) + self._states.count(LOST)

    def _take_new_away(self):
        self._states.pop()
        self._cells.pop()
        self._column = None


def told_data(array, row):
    """Return the data that are told of a row; raise Spoilt if none are."""
    left = array.left(row)
    data = told_standing(array.loss(), left)
    if data is None:
        raise Spoilt(row)
    return data


def is_whole(array, row):
    """Return whether the kept cells of a row are those of the right row of its data."""
    return data_if_whole(array, row) is not None


def data_if_whole(array, row):
    """Return the data of a row that is whole, None of others."""
    left = array.left(row)
    return whole_data(array.loss(), left)


def with_column(table, column):
    """Return a table with one more column."""
    return tuple(row + (number,) for row, number in zip(table, column))


def check_standing(shape):
    """Raise NotStanding unless a shape stands."""
    if not stands(shape):
        raise NotStanding(0)


def check_row(array, row):
    """Raise BadRow unless row is the number of a row of an array."""
    if not is_from(row, 0, array.rows - 1):
        raise BadRow(row)


def check_shelf(array, shelf):
    """Raise BadShelf unless shelf is the number of a shelf of an array, or of its new one."""
    if not is_from(shelf, 0, array.shelf_numbers() - 1):
        raise BadShelf(shelf)


def check_cells(array, cells):
    """Raise BadCells unless cells are a cell for each row of an array."""
    if not is_tuple_of(cells, array.rows):
        raise BadCells(-1)
    for index, cell in enumerate(cells):
        if not is_cell(array.shape, cell):
            raise BadCells(index)


def check_no_new(array):
    """Raise New if an array has a new shelf."""
    if array.new_column() is not None:
        raise New(0)


def check_whole(array):
    """Raise Torn of the first row of an array that is not whole, also if it is spoilt."""
    for row in range(array.rows):
        if not is_whole(array, row):
            raise Torn(row)
