"""Contents: the kinds of cells of the file store, and how deep a row of words lies in them."""

# The first word of a cell tells its kind.
TOP = 1
THING = 2
INNER = 3
LEAF = 4


def least_depth(wide, size):
    """Return the depth of a content of so many words, in cells of so many."""
    if size == 0:
        return 0
    depth = 1
    room = wide - 1
    while room < size:
        depth += 1
        room *= wide - 1
    return depth


def span_of(wide, depth):
    """Return to how many words each pointer of an INNER of a depth leads, F ** (depth - 1)."""
    span = 1
    for _ in range(depth - 1):
        span *= wide - 1
    return span


def padded(cell, wide):
    """Return the first words of a cell with noughts behind them."""
    return cell + (0,) * (wide - len(cell))
