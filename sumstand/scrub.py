"""Scrubbing: how the rows of an array look, and the code that mends all that are torn."""

from sumstand.errors import Spoilt
from sumstand.mending import mend_row
from sumstand.shelves import is_whole, told_data

WHOLE = "whole"
TORN = "torn"
SPOILT = "spoilt"


def looks(array):
    """Return for each row of an array whether it is whole, torn or spoilt."""
    return tuple(look_of(array, row) for row in range(array.rows))


def scrub(array):
    """Return the code that makes each torn row whole; raise Spoilt if a row is spoilt."""
    batches = [mend_row(array, row) for row in range(array.rows)]
    return tuple(batch for batch in batches if batch)


def look_of(array, row):
    """Return whether a row is whole, torn or spoilt."""
    if is_whole(array, row):
        return WHOLE
    try:
        told_data(array, row)
    except Spoilt:
        return SPOILT
    return TORN
