"""The rules of safe losses, and two stories that clash where a rule is broken."""

from sumstand.fields import inverse, left_null
from sumstand.losses import filled, full_column, image_of, strays, line_of, nought_data, nought_rest, scaled
from sumstand.losses import story_at_rest, story_with, with_mark
from sumstand.stripes import with_cell


def first_fault(loss, null, marks):
    """Return the first mark, or two, by which null for V breaks a rule, or None."""
    seen = {}
    for mark in marks:
        image = image_of(null, mark[1], loss.shape[0])
        if any(image):
            line, factor = line_of(image, loss.shape[0])
            anchors = anchors_of(loss, mark, factor)
            others = seen.setdefault(line, [])
            for other, other_anchors in others:
                if not any(row in other_anchors for row in anchors):
                    return other, mark
            others.append((mark, anchors))
        elif strays(loss, mark):
            return (mark,)
    return None


def anchors_of(loss, mark, factor):
    """Return what tells the ends of a mark that shows a line times the factor.

    Two marks that show the same line share an end just if they have one of these in common. The second
    end is told of lost data alone: where x is kept, no other mark of the line has this end alone.
    """
    x, trace, _, _ = mark
    p = loss.shape[0]
    less = inverse(factor, p)
    anchors = [scaled(trace, less, p)]
    if x in loss.gone:
        rest = tuple(number - whole for number, whole in zip(trace, full_column(loss, x)))
        anchors.append(scaled(rest, less, p))
    return anchors


def clash_behind(loss, marks):
    """Return two stories with these marks, or at rest, that clash behind a loss, or None."""
    if loss.undo is None:
        return rest_clash(loss)
    fault = first_fault(loss, loss.null, marks)
    if fault is None:
        return None
    if len(fault) == 1:
        return whole_clash(loss, nought_data(loss.shape), fault[0])
    return torn_clash(loss, fault[0], fault[1])


def rest_clash(loss):
    """Return two stories at rest whose data differ where no kept cell shows it."""
    columns = tuple(tuple(row[at] for row in loss.matrix) for at in range(len(loss.gone)))
    hidden = left_null(columns, len(loss.kept), loss.shape[0])[0]
    nought = nought_data(loss.shape)
    data = nought
    for y, number in zip(loss.gone, hidden):
        data = with_cell(data, y, step_of(loss, number))
    return story_at_rest(nought), story_at_rest(data)


def whole_clash(loss, data, mark):
    """Return a story at rest with the data, and one with the mark that leaves the same and has other ends."""
    step = step_of(loss, 1)
    away = filled(loss, data, with_mark(loss, nought_rest(loss), mark, -1, step))
    return story_at_rest(data), story_with(loss, away, mark, step)


def torn_clash(loss, one, two):
    """Return two stories with two marks that show the same line and share no end."""
    step_one, step_two = step_by_line(loss, one), step_by_line(loss, two)
    left = with_mark(loss, nought_rest(loss), one, 1, step_one)
    nought = nought_data(loss.shape)
    other = filled(loss, nought, with_mark(loss, left, two, -1, step_two))
    return story_with(loss, nought, one, step_one), story_with(loss, other, two, step_two)


def step_by_line(loss, mark):
    """Return the step by which a mark shows its very line."""
    p = loss.shape[0]
    _, factor = line_of(image_of(loss.null, mark[1], p), p)
    return step_of(loss, inverse(factor, p))


def step_of(loss, number):
    """Return the cell that has the number at its first place, and noughts."""
    return (number,) + (0,) * (loss.shape[1] - 1)
