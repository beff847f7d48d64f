"""The judge: which losses are safe, and which shapes stand."""

from sumstand.clashes import clash_behind, first_fault
from sumstand.losses import SolvedLoss, all_marks, asked_losses, losses_with_data
from sumstand.shapes import check_loss, is_loss, is_shape, made_shape, shelf_count


def safe(shape, lost):
    """Return whether no two stories of a shape clash behind a loss."""
    return is_shape(shape) and is_loss(shape, lost) and found_safe(shape, lost)


def clash_in(shape, lost):
    """Return two stories that clash behind a loss, or None if it is safe."""
    made_shape(shape)
    check_loss(shape, lost)
    loss = SolvedLoss(shape, lost)
    return clash_behind(loss, all_marks(loss))


def stands(shape):
    """Return whether each loss of at most e shelves is safe."""
    if not is_shape(shape):
        return False
    # What clashes behind a loss clashes behind each loss with more shelves, so the greatest ones tell all.
    # Those with most data come last, and are those that are most often not safe.
    greatest = losses_with_data(shape, min(shape[4], shelf_count(shape)))
    return all(found_safe(shape, lost) for lost in reversed(greatest))


def first_clash(shape):
    """Return the first loss that is not safe with two stories that clash behind it, or None."""
    made_shape(shape)
    for lost in asked_losses(shape):
        stories = clash_in(shape, lost)
        if stories is not None:
            return lost, stories[0], stories[1]
    return None


def found_safe(shape, lost):
    """Return whether a loss of a shape is safe, without asking for their form."""
    loss = SolvedLoss(shape, lost)
    return loss.undo is not None and first_fault(loss, loss.null, all_marks(loss)) is None
