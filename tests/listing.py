"""All stories of a small shape, listed one by one, to hold the program's answers against."""

import itertools


def rising(parts):
    """All rising tuples of some of the parts, those with fewer ones first."""
    parts = tuple(parts)
    for many in range(len(parts) + 1):
        yield from itertools.combinations(parts, many)


def shelves(shape):
    """How many shelves a shape has."""
    return len(shape[3]) + shape[2]


def losses(shape, most=None):
    """All losses of a shape, of at most so many shelves, those with fewer shelves first."""
    for lost in rising(range(shelves(shape))):
        if most is None or len(lost) <= most:
            yield lost


def all_cells(shape):
    return tuple(itertools.product(range(shape[0]), repeat=shape[1]))


def all_data(shape):
    return tuple(itertools.product(all_cells(shape), repeat=shape[2]))


def put(data, x, cell):
    return data[:x] + (cell,) + data[x + 1:]


def right_of(shape, data):
    """The right row of the data, reckoned number by number."""
    p, wide, n, table, _ = shape
    sums = tuple(
        tuple(sum(row[x] * data[x][place] for x in range(n)) % p for place in range(wide)) for row in table
    )
    return sums + data


def right_rows(shape):
    return {data: right_of(shape, data) for data in all_data(shape)}


def all_stories(shape):
    """All stories of a shape."""
    c = len(shape[3])
    for data in all_data(shape):
        for x in range(shape[2]):
            for cell in all_cells(shape):
                for came in rising(tuple(range(c)) + (c + x,)):
                    yield data, x, cell, came


def edge_of(story):
    data, x, cell, _ = story
    return tuple(sorted((data, put(data, x, cell))))


def unbroken_rows(shape):
    """For each row that a story leaves without a loss a dict of its edges, each with such a story."""
    rights = right_rows(shape)
    found = {}
    for story in all_stories(shape):
        data, x, cell, came = story
        ahead, behind = rights[data], rights[put(data, x, cell)]
        row = tuple(behind[shelf] if shelf in came else ahead[shelf] for shelf in range(len(ahead)))
        found.setdefault(row, {}).setdefault(edge_of(story), story)
    return found


def behind_loss(row, lost):
    """A row of which the lost shelves are lost."""
    return tuple(None if shelf in lost else cell for shelf, cell in enumerate(row))


def left_rows(unbroken, lost):
    """For each row that a story leaves with a loss its edges, from those without a loss."""
    found = {}
    for row, edges in unbroken.items():
        kept = found.setdefault(behind_loss(row, lost), {})
        for edge, story in edges.items():
            kept.setdefault(edge, story)
    return found


def whole_rows(shape, lost):
    """For each whole row with a loss the tuple of all data whose right row it is."""
    found = {}
    for data, row in right_rows(shape).items():
        left = behind_loss(row, lost)
        found[left] = found.get(left, ()) + (data,)
    return found


def disjoint(one, two):
    return not set(one) & set(two)


def clashing(edges):
    """Whether two of the edges have no end in common."""
    return any(disjoint(one, two) for one, two in itertools.combinations(edges, 2))


def listed_safe(unbroken, lost):
    """Whether no two stories clash behind a loss."""
    return not any(clashing(edges) for edges in left_rows(unbroken, lost).values())
