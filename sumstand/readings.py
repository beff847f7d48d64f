"""Readings: which rows a left row may come from, and what is told of it."""

from itertools import combinations

from sumstand.clashes import whole_clash
from sumstand.errors import TooFew, TwoWorlds
from sumstand.fields import inverse, times
from sumstand.losses import SolvedLoss, all_marks, filled, image_of, line_of, scaled, story_with, strays, with_mark
from sumstand.shapes import sum_count
from sumstand.stories import ends, share_end
from sumstand.stripes import lost_of, made_left, right_row, sums_of


def edges(shape, left):
    """Return the pairs of data ahead of and behind a deed of the stories that leave a row."""
    made_left(shape, left)
    loss = loss_of(shape, left)
    data = whole_data(loss, left)
    if data is not None:
        return ((data, data),)
    return tuple(sorted(stories_by_edge(loss, left)))


def told(shape, left):
    """Return the data that are told of a left row, None if no story leaves it."""
    made_left(shape, left)
    loss = loss_of(shape, left)
    data = whole_data(loss, left)
    if data is None:
        return torn_data(loss, left)
    for mark in all_marks(loss):
        if strays(loss, mark) and not any(image_of(loss.null, mark[1], shape[0])):
            raise TwoWorlds(whole_clash(loss, data, mark))
    return data


def told_standing(loss, left):
    """Return what told does of a left row, where the shape stands and at most e shelves are lost.

    Nothing is asked of the forms, nor whether two stories clash, which none do then.
    """
    data = whole_data(loss, left)
    return torn_data(loss, left) if data is None else data


def loss_of(shape, left):
    """Return the loss of a left row; raise TooFew if other data have the same kept cells."""
    lost = lost_of(left)
    loss = SolvedLoss(shape, lost)
    if loss.undo is None:
        raise TooFew(lost)
    return loss


def kept_data(loss, left):
    """Return the data of a left row, with nought for those that are lost."""
    nought = (0,) * loss.shape[1]
    return tuple(nought if cell is None else cell for cell in left[sum_count(loss.shape):])


def rest_of(loss, left):
    """Return how far the kept sums of a left row are from those of its kept data."""
    p = loss.shape[0]
    due = sums_of(loss.shape, kept_data(loss, left))
    return tuple(tuple((a - b) % p for a, b in zip(left[j], due[j])) for j in loss.kept)


def shown_by(loss, rest):
    """Return what V shows of a rest: noughts alone if lost data make up for all of it."""
    return times(loss.null, rest, loss.shape[1], loss.shape[0])


def whole_data(loss, left):
    """Return the data whose right row is left, None if there are none."""
    rest = rest_of(loss, left)
    if any(any(row) for row in shown_by(loss, rest)):
        return None
    return filled(loss, kept_data(loss, left), rest)


def stories_by_edge(loss, left):
    """Return, for each edge of a row that is not whole, a story with these ends that leaves the row."""
    p = loss.shape[0]
    rest = rest_of(loss, left)
    data = kept_data(loss, left)
    shown, shown_step = line_and_step(shown_by(loss, rest), p)
    stories = {}
    for mark in all_marks(loss):
        image = image_of(loss.null, mark[1], p)
        line, factor = line_of(image, p)
        if any(image) and line == shown:
            step = scaled(shown_step, inverse(factor, p), p)
            ground = filled(loss, data, with_mark(loss, rest, mark, -1, step))
            story = story_with(loss, ground, mark, step)
            ahead, behind = ends(story)
            stories[min(ahead, behind), max(ahead, behind)] = story
    return stories


def line_and_step(shown, p):
    """Return the line and the step that make up rows that are not nought, None for the line if none does."""
    step = next((row for row in shown if any(row)), ())
    place = next((at for at, number in enumerate(step) if number != 0), 0)
    line, _ = line_of(tuple(row[place] for row in shown), p)
    if any(scaled(step, number, p) != row for number, row in zip(line, shown)):
        return None, step
    return line, step


def torn_data(loss, left):
    """Return the data that are told of a row that is not whole, None if no story leaves it."""
    stories = stories_by_edge(loss, left)
    pairs = sorted(stories)
    if not pairs:
        return None
    if len(pairs) == 1:
        return nearer_end(loss.shape, left, pairs[0])
    for one, two in combinations(pairs, 2):
        if not share_end(one, two):
            raise TwoWorlds((stories[one], stories[two]))
    # Pairs of which each two share an end have one in common: of three that have none, each two ends
    # would differ in the same lost cell, and their marks could not show the same line.
    return pairs[0][0] if pairs[0][0] in pairs[1] else pairs[0][1]


def nearer_end(shape, left, pair):
    """Return the end whose right row agrees with more kept cells, the lesser one if both do with as many."""
    lesser, greater = pair
    if agreements(shape, left, greater) > agreements(shape, left, lesser):
        return greater
    return lesser


def agreements(shape, left, data):
    """Return how many cells of a left row are those of the right row of the data."""
    return sum(1 for cell, due in zip(left, right_row(shape, data)) if cell == due)
