"""Contents: how deep a row of words lies."""


def least_depth(wide, size):
    """Return the depth of a content of so many words, in cells of so many."""
    if size == 0:
        return 0
    depth = 1
    room = wide - 1
    while room < size:
        depth += 1
        room *= wide - 1
    return depth
