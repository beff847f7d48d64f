"""Losses: what is reckoned of one, and the marks that deeds leave behind it.

A mark is a tuple (x, trace, came, turned): what a deed on data x leaves on the kept sums, the shelves that
came, and whether x itself is kept and came, so that the data that lie there are those behind the deed.
"""

from itertools import combinations

from sumstand.fields import combined, inverse, left_inverse, left_null, times
from sumstand.shapes import shelf_count, sum_count
from sumstand.stripes import with_cell
from sumstand.traces import kept_sums


class Loss:
    """A loss of a shape: its kept sums, its lost data, and the matrix H of the two."""

    def __init__(self, shape, lost):
        c = sum_count(shape)
        self.shape = shape
        self.lost = lost
        self.kept = kept_sums(shape, lost)
        self.gone = tuple(shelf - c for shelf in lost if shelf >= c)
        self.matrix = tuple(tuple(shape[3][j][y] for y in self.gone) for j in self.kept)


class SolvedLoss(Loss):
    """A loss with the matrix V of all rows whose product with H is nought, and the inverse W of H."""

    def __init__(self, shape, lost):
        Loss.__init__(self, shape, lost)
        self.null = left_null(self.matrix, len(self.gone), shape[0])
        # None just if the columns are not free, so that other data have the same kept cells.
        self.undo = left_inverse(self.matrix, len(self.gone), shape[0])


def losses_with_data(shape, many):
    """Return the losses of so many shelves that have a data shelf among them."""
    c = sum_count(shape)
    return [lost for lost in combinations(range(shelf_count(shape)), many) if any(shelf >= c for shelf in lost)]


def asked_losses(shape):
    """Return the losses of at most e shelves that have a data shelf, those with fewer shelves first."""
    found = []
    for many in range(shape[4] + 1):
        found.extend(losses_with_data(shape, many))
    return found


def all_marks(loss):
    """Return the marks that deeds may leave behind a loss, whichever of their writes came."""
    marks = []
    for x in range(loss.shape[2]):
        for trace in traces_in(full_column(loss, x)):
            came = tuple(j for j, number in zip(loss.kept, trace) if number != 0)
            marks.append((x, trace, came, False))
    return marks


def traces_in(numbers):
    """Return each row that has some of the numbers, and 0 for the others, without repetitions."""
    found = [()]
    for number in numbers:
        longer = [row + (0,) for row in found]
        if number != 0:
            longer.extend([row + (number,) for row in found])
        found = longer
    return found


def full_column(loss, x):
    """Return the whole column of data x on the kept sums."""
    return tuple(loss.shape[3][j][x] for j in loss.kept)


def image_of(null, trace, p):
    """Return the products of the rows of null with a trace."""
    return tuple(sum(a * b for a, b in zip(row, trace)) % p for row in null)


def strays(loss, mark):
    """Return whether a mark that V does not show is none of whole data that are lost."""
    x, trace, _, _ = mark
    if not any(trace):
        return False
    return x not in loss.gone or trace != full_column(loss, x)


def line_of(image, p):
    """Return the multiple of an image whose first number other than 0 is 1, and that number."""
    factor = next((number for number in image if number != 0), 0)
    return scaled(image, inverse(factor, p), p), factor


def scaled(row, factor, p):
    """Return a row with each number times a factor."""
    return tuple(number * factor % p for number in row)


def nought_data(shape):
    """Return the data of which all cells are nought."""
    return ((0,) * shape[1],) * shape[2]


def nought_rest(loss):
    """Return the rest that a right row shows: a nought for each kept sum."""
    return ((0,) * loss.shape[1],) * len(loss.kept)


def with_mark(loss, rest, mark, factor, step):
    """Return a rest with a factor times what the mark of a deed leaves that changes its cell by a step."""
    return tuple(combined(row, factor * number, step, loss.shape[0]) for row, number in zip(rest, mark[1]))


def filled(loss, data, rest):
    """Return data with that added to the lost ones which shows the rest on the kept sums."""
    p, wide, _, _, _ = loss.shape
    for y, cell in zip(loss.gone, times(loss.undo, rest, wide, p)):
        data = with_cell(data, y, combined(data[y], 1, cell, p))
    return data


def story_with(loss, data, mark, step):
    """Return the story that leaves data where they are kept, and a mark of a deed by a step."""
    x, _, came, turned = mark
    other = with_cell(data, x, combined(data[x], 1, step, loss.shape[0]))
    if turned:
        return other, x, data[x], came
    return data, x, other[x], came


def story_at_rest(data):
    """Return a story that leaves the right row of the data."""
    return data, 0, data[0], ()
