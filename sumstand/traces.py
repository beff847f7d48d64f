"""Traces: what a deed shows on the sums that are kept."""

from sumstand.errors import BadShelf
from sumstand.forms import is_rising
from sumstand.shapes import check_data_number, check_loss, made_shape, sum_count


def trace(shape, lost, x, mask):
    """Return, for each kept sum, its number of data x if it is in the mask, otherwise 0."""
    made_shape(shape)
    check_loss(shape, lost)
    check_data_number(shape, x)
    kept = kept_sums(shape, lost)
    if not is_mask(shape, mask, kept):
        raise BadShelf(-1)
    return tuple(shape[3][j][x] if j in mask else 0 for j in kept)


def kept_sums(shape, lost):
    """Return the sums of a shape that are not in a loss, rising."""
    return tuple(j for j in range(sum_count(shape)) if j not in lost)


def is_mask(shape, thing, kept):
    """Return whether thing is a mask: a rising tuple of kept sums."""
    return is_rising(thing, sum_count(shape)) and all(j in kept for j in thing)
