"""How many cells contents have, and how many of them are new."""

from sumstand.laying import Ground, laid_content


def content_cells(wide, words):
    """Return how many cells a content has."""
    return content_need(wide, (), words)


def content_need(wide, old, new):
    """Return how many cells of a content are new, where the old content at the same place has other words."""
    ground = Ground(())
    _, places = laid_content(ground, wide, old, {})
    ahead = len(ground.laid)
    laid_content(ground, wide, new, places)
    return len(ground.laid) - ahead
