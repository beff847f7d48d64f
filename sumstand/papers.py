"""Papers that show that a shape stands."""

from sumstand.clashes import first_fault
from sumstand.errors import Clash
from sumstand.fields import times, unit
from sumstand.forms import is_row, is_tuple_of
from sumstand.judge import first_clash
from sumstand.losses import Loss, SolvedLoss, all_marks, asked_losses
from sumstand.shapes import is_loss, is_shape, made_shape


def stand_paper(shape):
    """Return the paper that shows that a shape stands; raise Clash if it does not."""
    made_shape(shape)
    found = first_clash(shape)
    if found is not None:
        raise Clash(found[0])
    losses = [(lost, SolvedLoss(shape, lost)) for lost in asked_losses(shape)]
    return tuple((lost, loss.null, loss.undo) for lost, loss in losses)


def paper_right(shape, paper):
    """Return whether a paper shows that a shape stands."""
    if not is_shape(shape):
        return False
    asked = asked_losses(shape)
    if not is_tuple_of(paper, len(asked)):
        return False
    return all(is_part(shape, lost, part) for lost, part in zip(asked, paper))


def is_part(shape, asked, thing):
    """Return whether thing is the part of a right paper for a loss."""
    if not is_tuple_of(thing, 3):
        return False
    lost, null, back = thing
    # Asked as a loss first, since True is equal to 1.
    if not is_loss(shape, lost) or lost != asked:
        return False
    loss = Loss(shape, lost)
    if not is_null(loss, null) or not is_back(loss, back):
        return False
    return first_fault(loss, null, all_marks(loss)) is None


def is_null(loss, thing):
    """Return whether thing is a matrix whose rows have nought as product with the one of a loss."""
    if not is_matrix(loss, thing):
        return False
    products = times(thing, loss.matrix, len(loss.gone), loss.shape[0])
    return not any(any(row) for row in products)


def is_back(loss, thing):
    """Return whether thing is a matrix whose product with the one of a loss has 1 at equal places alone."""
    many = len(loss.gone)
    if not is_matrix(loss, thing) or len(thing) != many:
        return False
    products = times(thing, loss.matrix, many, loss.shape[0])
    return products == tuple(unit(place, many) for place in range(many))


def is_matrix(loss, thing):
    """Return whether thing is a matrix with a number below the prime for each kept sum."""
    if not isinstance(thing, tuple):
        return False
    return all(is_row(row, len(loss.kept), loss.shape[0]) for row in thing)
