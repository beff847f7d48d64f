"""Writes that go out one behind another: with too few sums two stories clash in any order."""

from sumstand.clashes import clash_behind
from sumstand.errors import BadOrder, NotSo
from sumstand.forms import is_from, is_tuple_of
from sumstand.losses import SolvedLoss, asked_losses
from sumstand.shapes import made_shape, shelf_count, sum_count


def order_clash(shape, orders):
    """Return a loss and two stories that clash behind it, whose writes came in the order of their data."""
    made_shape(shape)
    check_few_sums(shape)
    check_orders(shape, orders)
    for lost in asked_losses(shape):
        loss = SolvedLoss(shape, lost)
        stories = clash_behind(loss, marks_in_order(loss, orders))
        if stories is not None:
            return lost, stories[0], stories[1]
    # Not come to: there are two such stories for all of these shapes and orders.
    return None


def check_few_sums(shape):
    """Raise NotSo unless a shape has too few sums to stand, whatever its table is."""
    _, _, n, table, e = shape
    if n < 3 or e < 1 or len(table) > e + 1:
        raise NotSo(0)


def check_orders(shape, orders):
    """Raise BadOrder unless orders are an order of each of the data."""
    if not is_tuple_of(orders, shape[2]):
        raise BadOrder(-1)
    for x, order in enumerate(orders):
        if not is_order(shape, x, order):
            raise BadOrder(x)


def is_order(shape, x, thing):
    """Return whether thing has the shelf of data x and each sum once."""
    c = sum_count(shape)
    if not is_tuple_of(thing, c + 1):
        return False
    if not all(is_from(shelf, 0, shelf_count(shape) - 1) for shelf in thing):
        return False
    return sorted(thing) == list(range(c)) + [c + x]


def marks_in_order(loss, orders):
    """Return the marks that deeds leave behind a loss if the first so many of their writes came."""
    return [
        mark_behind(loss, x, order[:many])
        for x, order in enumerate(orders)
        for many in range(len(order) + 1)
    ]


def mark_behind(loss, x, written):
    """Return the mark that a deed on data x leaves if just the written shelves came."""
    table = loss.shape[3]
    turned = len(table) + x in written and x not in loss.gone
    # Where the data lie that are behind the deed, what the others show is what did not come.
    trace = tuple(0 if (j in written) == turned else table[j][x] for j in loss.kept)
    return x, trace, tuple(sorted(written)), turned
