"""Arrays for tests: shapes that stand, arrays with told rows, and all that can be seen of an array."""

import copy

from sumstand.batches import do
from sumstand.scrub import looks
from sumstand.shelves import Array
from sumstand.stories import left_by
from tests.helpers import Case, GREAT, GREAT_TABLE, SHAPE, some_story
from tests.listing import losses, put, right_of, shelves

COPIES = (7, 1, 1, ((1,), (1,), (1,)), 1)
BITS = (2, 1, 2, ((1, 0), (0, 1)), 1)
ELEVEN = (11, 1, 3, ((1, 1, 1), (1, 5, 2), (1, 9, 7)), 1)

# Shapes that stand: of each size that is named as an edge.
STANDING = (
    SHAPE,
    COPIES,
    COPIES[:4] + (2,),
    BITS,
    ELEVEN,
    (5, 2, 1, (), 0),
    (3, 1, 6, (), 0),
    (2, 1, 6, ((1,) * 6,) * 5, 0),
    (7, 3, 2, ((0, 0), (1, 1)), 0),
    (65521, 2, 3, tuple(row[:3] for row in GREAT_TABLE[:4]), 2),
    GREAT,
)


def some_losses(shape, most, many):
    """Losses of at most so many shelves: all, or as many as told of them, those with most shelves among them."""
    found = list(losses(shape, most))
    step = max(1, len(found) // many)
    return found[::-1][::step]


def part_of_great(wide, n, c, e=None):
    """A shape that stands, with n data and c sums; with c - 2 for e unless another one is told."""
    return 65521, wide, n, tuple(row[:n] for row in GREAT_TABLE[:c]), c - 2 if e is None else e


def filled(shape, rows):
    """An array whose rows have these cells, one for each shelf."""
    array = Array(shape, len(rows))
    for row, cells in enumerate(rows):
        do(array, (tuple((shelf, row, cell) for shelf, cell in enumerate(cells)),))
    return array


def with_data(shape, rows):
    """An array with the right rows of these data."""
    return filled(shape, [right_of(shape, data) for data in rows])


def shelf_numbers(array):
    """How many shelves an array has, the new one counted."""
    count = shelves(array.shape)
    try:
        array.state(count)
    except ValueError:
        return count
    return count + 1


def seen(array):
    """All that an array tells: its shape, its rows, its states, its cells and its left rows."""
    numbers = range(shelf_numbers(array))
    return (
        array.shape,
        array.rows,
        tuple(array.state(shelf) for shelf in numbers),
        tuple(tuple(array.cell(row, shelf) for row in range(array.rows)) for shelf in numbers),
        tuple(array.left(row) for row in range(array.rows)),
    )


def copied(array):
    """Another array in which all is as in this one, but for a new shelf, made by its methods alone."""
    other = Array(array.shape, array.rows)
    for shelf in range(shelves(array.shape)):
        cells = tuple(array.cell(row, shelf) for row in range(array.rows))
        if array.state(shelf) != "kept":
            other.lose(shelf)
        if array.state(shelf) == "filling":
            other.replace(shelf, cells)
        if array.state(shelf) == "kept":
            do(other, tuple(((shelf, row, cell),) for row, cell in enumerate(cells)))
    return other


def some_row(numbers, shape):
    """A row that a story leaves, and the ends of the story."""
    story = some_story(numbers, shape)
    data, x, cell, _ = story
    return left_by(shape, story, ()), (data, put(data, x, cell))


def torn_rows(numbers, shape, rows):
    """An array with rows that stories leave, and for each row the ends of its story."""
    pairs = [some_row(numbers, shape) for _ in range(rows)]
    return filled(shape, [row for row, _ in pairs]), [ends for _, ends in pairs]


def lose_all(array, lost):
    for shelf in lost:
        array.lose(shelf)


def unkept(array):
    """The shelves that are filling or lost."""
    return tuple(shelf for shelf in range(shelves(array.shape)) if array.state(shelf) != "kept")


def twin(array):
    """The very same array once more, a new shelf with it."""
    return copy.deepcopy(array)


def spoil(array, row):
    """Give a row cells that no story leaves, or tell that there are none such of this shape."""
    p, wide, _, _, _ = array.shape
    count = shelves(array.shape)
    for number in range(1, 400):
        cells = tuple(((number * (shelf + 3) ** 3 + shelf) % p,) * wide for shelf in range(count))
        do(array, (tuple((shelf, row, cell) for shelf, cell in enumerate(cells)),))
        if looks(array)[row] == "spoilt":
            return
    raise LookupError("no such row was found")


class Refusing(Case):
    """A case that holds what is refused against all that an array tells ahead of the call and behind it."""

    def changes_nothing(self, array, error, what, call, *given):
        before = seen(array)
        self.refused(error, what, call, *given)
        self.same(seen(array), before)
