"""Arrays as texts, and back."""

from sumstand.errors import BadCells, BadColumn, BadText, NotStanding, TooMany, TooManyLost
from sumstand.fields import is_prime
from sumstand.figures import numbers_in
from sumstand.forms import is_from
from sumstand.shapes import GREATEST_DATA, GREATEST_LOST, GREATEST_SUMS, GREATEST_WIDE, shelf_count
from sumstand.shelves import FILLING, GREATEST_ROWS, KEPT, LOST, NEW, Array

# No number that is told has more figures.
MOST_FIGURES = 5
GREATEST_TOLD = 99999


def array_text(array):
    """Return the texts that tell an array: its shape, its sums, its shelves, and its new shelf."""
    p, wide, n, table, e = array.shape
    shelves = shelf_count(array.shape)
    texts = [words_of("shape", (p, wide, n, e, array.rows))]
    texts.extend([words_of("sum", row) for row in table])
    texts.extend([shelf_text(array, shelf) for shelf in range(shelves)])
    if array.new_column() is not None:
        head = words_of("column", array.new_column())
        texts.append(f"{head}: {shelf_text(array, shelves)}")
    return tuple(texts)


def read_array(texts):
    """Return a new array that has these texts; raise BadText where they tell none."""
    if not isinstance(texts, tuple) or not all(isinstance(text, str) for text in texts):
        raise BadText(-1)
    p, wide, n, e, rows = first_numbers(texts)
    table = read_table(texts, n, p)
    array = Array((p, wide, n, table, e), rows)
    at = 1 + len(table)
    for shelf in range(shelf_count(array.shape)):
        read_shelf(array, shelf, texts, at + shelf)
    read_rest(array, texts, at + shelf_count(array.shape))
    return array


def words_of(word, numbers):
    """Return a word and numbers, parted by blanks."""
    return " ".join([word] + [str(number) for number in numbers])


def shelf_text(array, shelf):
    """Return the text of a shelf, with its cells unless it is lost."""
    words = ["shelf", str(shelf), array.state(shelf)]
    if array.state(shelf) != LOST:
        words.extend([cell_text(array.cell(row, shelf)) for row in range(array.rows)])
    return " ".join(words)


def cell_text(cell):
    """Return the numbers of a cell, parted by dots."""
    return ".".join([str(number) for number in cell])


def first_numbers(texts):
    """Return the numbers of the first text: the prime, how wide cells are, n, e and the rows."""
    words = texts[0].split(" ") if texts else [""]
    numbers = numbers_in(words[1:], MOST_FIGURES, GREATEST_TOLD)
    if words[0] != "shape" or numbers is None or len(numbers) != 5:
        raise BadText(0)
    p, wide, n, e, rows = numbers
    sizes = is_from(wide, 1, GREATEST_WIDE) and is_from(n, 1, GREATEST_DATA)
    if not is_prime(p) or not sizes or not is_from(e, 0, GREATEST_LOST) or not is_from(rows, 1, GREATEST_ROWS):
        raise BadText(0)
    return numbers


def read_table(texts, n, p):
    """Return the rows of the table that the texts right behind the first one tell."""
    table = []
    for index in range(1, len(texts)):
        if not texts[index].startswith("sum "):
            break
        numbers = numbers_in(texts[index].split(" ")[1:], MOST_FIGURES, p - 1)
        if len(table) == GREATEST_SUMS or numbers is None or len(numbers) != n:
            raise BadText(index)
        table.append(numbers)
    return tuple(table)


def read_shelf(array, shelf, texts, index):
    """Give a shelf of an array the state and the cells that the text of an index tells."""
    words = texts[index].split(" ") if index < len(texts) else []
    if words[:2] != ["shelf", str(shelf)] or len(words) < 3:
        raise BadText(index)
    state = words[2]
    cells = cells_in(words[3:], array.shape)
    if state not in (KEPT, FILLING, LOST) or cells is None or len(cells) != (0 if state == LOST else array.rows):
        raise BadText(index)
    try:
        lay(array, shelf, state, cells)
    except TooManyLost:
        raise BadText(index)


def lay(array, shelf, state, cells):
    """Give a kept shelf another state, and cells unless it is lost then."""
    if state != KEPT:
        array.lose(shelf)
    if state == FILLING:
        array.replace(shelf, cells)
    for row, cell in enumerate(cells):
        array.put(shelf, row, cell)


def read_rest(array, texts, index):
    """Read the texts from an index on, behind those of the shelves: that of a new shelf, or none."""
    if index == len(texts):
        return
    head, _, tail = texts[index].partition(": ")
    words = tail.split(" ")
    heads = head.split(" ")
    column = numbers_in(heads[1:], MOST_FIGURES, array.shape[0] - 1)
    cells = cells_in(words[3:], array.shape)
    if heads[0] != "column" or words[:3] != ["shelf", str(shelf_count(array.shape)), NEW]:
        raise BadText(index)
    try:
        array.new(column, cells)
    except (BadColumn, TooMany, NotStanding, BadCells):
        raise BadText(index)
    if index + 1 < len(texts):
        raise BadText(index + 1)


def cells_in(words, shape):
    """Return the cells that words tell, each with its numbers parted by dots, None if one tells none."""
    cells = [numbers_in(word.split("."), MOST_FIGURES, shape[0] - 1) for word in words]
    if any(cell is None or len(cell) != shape[1] for cell in cells):
        return None
    return tuple(cells)
