"""Stories: a row, a deed that changes one of its data, and which of its writes have come."""

from sumstand.errors import BadShape, BadStory
from sumstand.forms import is_from, is_rising, is_tuple_of
from sumstand.shapes import check_loss, is_loss, made_shape, shelf_count, sum_count
from sumstand.stripes import is_cell, is_data, right_row, with_cell


def made_story(shape, story):
    """Return story if it is one (data, x, cell, came); raise BadStory otherwise."""
    made_shape(shape)
    if not is_tuple_of(story, 4):
        raise BadStory(-1)
    data, x, cell, came = story
    if not is_data(shape, data):
        raise BadStory(0)
    if not is_from(x, 0, shape[2] - 1):
        raise BadStory(1)
    if not is_cell(shape, cell):
        raise BadStory(2)
    if not is_come(shape, x, came):
        raise BadStory(3)
    return story


def ends(story):
    """Return the data ahead of the deed and those behind it."""
    data, x, cell, _ = story
    return data, with_cell(data, x, cell)


def at_rest(story):
    """Return whether the data ahead of the deed and those behind it are one."""
    data, x, cell, _ = story
    return data[x] == cell


def left_by(shape, story, lost):
    """Return the left row that a story leaves with a loss."""
    made_story(shape, story)
    check_loss(shape, lost)
    return left_row(shape, story, lost)


def clash(shape, lost, one, two):
    """Return whether two stories leave the same with a loss and share no end."""
    if not is_story(shape, one) or not is_story(shape, two) or not is_loss(shape, lost):
        return False
    if left_row(shape, one, lost) != left_row(shape, two, lost):
        return False
    return not share_end(ends(one), ends(two))


def is_story(shape, thing):
    """Return whether shape is a shape and thing one of its stories."""
    try:
        made_story(shape, thing)
    except (BadShape, BadStory):
        return False
    return True


def is_come(shape, x, thing):
    """Return whether thing is a rising tuple of sums and the shelf of data x."""
    c = sum_count(shape)
    return is_rising(thing, shelf_count(shape)) and all(shelf < c or shelf == c + x for shelf in thing)


def left_row(shape, story, lost):
    """Return the left row of a story and a loss, without asking for their form."""
    ahead, behind = ends(story)
    cells = []
    for shelf, pair in enumerate(zip(right_row(shape, ahead), right_row(shape, behind))):
        if shelf in lost:
            cells.append(None)
        else:
            cells.append(pair[1] if shelf in story[3] else pair[0])
    return tuple(cells)


def share_end(one, two):
    """Return whether two pairs of data have data in common."""
    return one[0] in two or one[1] in two
