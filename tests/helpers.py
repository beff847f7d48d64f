"""What the tests share: a case that looks closely at errors and values, and odd values."""

import unittest

from sumstand.errors import BadShape, Refused


def nested(deep):
    """Return tuples within tuples, so many deep."""
    thing = 3
    for _ in range(deep):
        thing = (thing,)
    return thing


# Values that are no number, of all the kinds that a judge and a mark may be shown.
NO_NUMBERS = (None, True, False, "", "3", "abc", (), (3,), ((3,), 3), nested(50), (0,) * 9999)

# Values that are no tuple.
NO_TUPLES = (None, True, False, "", "3", "abc", 0, 3, -1, 10**999)

# What is no loss of five shelves.
NO_LOSSES = NO_TUPLES + ((-1,), (5,), (0, 5), (0, 0), (1, 0), (0, 2, 1), (0, 1, 2, 3, 4, 5), nested(50))
NO_LOSSES += tuple((part,) for part in NO_NUMBERS) + ((0, True), (False, 1), (0, "1"), ((0, 1),))

# A shape for ordinary calls, which stands, and the one of the examples of rows.
SHAPE = (7, 1, 2, ((1, 1), (1, 2), (1, 4)), 1)
ROW_SHAPE = (7, 1, 2, ((1, 1), (1, 2), (1, 3)), 1)

# A table of which each part stands: with c sums and any of the columns, e may be c - 2.
GREAT_TABLE = (
    (31118, 60993, 4567, 50464, 30999, 36375),
    (10952, 20171, 32230, 61654, 60710, 185),
    (14224, 12045, 39761, 18224, 11599, 55064),
    (10629, 11758, 3295, 65427, 9355, 17887),
    (46289, 42948, 15608, 15601, 2002, 31583),
)
GREAT = (65521, 32, 6, GREAT_TABLE, 3)

# Each value with the index that BadShape tells of it.
WRONG_SHAPES = (
    (None, -1),
    (True, -1),
    ("shape", -1),
    (7, -1),
    ((), -1),
    (SHAPE[:4], -1),
    (SHAPE + (0,), -1),
    ((SHAPE,), -1),
    ((8,) + SHAPE[1:], 0),
    ((True,) + SHAPE[1:], 0),
    (SHAPE[:1] + (33,) + SHAPE[2:], 1),
    (SHAPE[:1] + (True,) + SHAPE[2:], 1),
    (SHAPE[:2] + (7,) + SHAPE[3:], 2),
    (SHAPE[:3] + (((1, 1), (1, 7)), 1), 3),
    (SHAPE[:3] + (((1, 1), (1, True)), 1), 3),
    (SHAPE[:4] + (4,), 4),
    (SHAPE[:4] + (True,), 4),
)


class Case(unittest.TestCase):
    """A test case that tells True from 1, and one error class from another."""

    def same(self, got, wanted):
        """Both are equal, and of the same kinds throughout."""
        self.assertEqual(repr(got), repr(wanted))

    def refused(self, error, what, call, *given, **named):
        """The call raises an error of just this class, with just this what."""
        with self.assertRaises(Refused, msg=f"{call.__name__}{given!r:.200}") as caught:
            call(*given, **named)
        self.assertIs(caught.exception.__class__, error)
        self.same(caught.exception.what, what)

    def wants_shape(self, call, *others):
        """The call asks "(shape)" of its first argument, ahead of the others."""
        for thing, index in WRONG_SHAPES:
            with self.subTest(shape=thing):
                self.refused(BadShape, index, call, thing, *others)


class Numbers:
    """Numbers for tests that look as if by chance, the same at each run."""

    def __init__(self, seed):
        self.now = seed

    def below(self, limit):
        self.now = (self.now * 48271 + 11) % 2147483647
        return self.now // 7 % limit

    def row(self, many, limit):
        return tuple(self.below(limit) for _ in range(many))

    def matrix(self, rows, many, limit):
        return tuple(self.row(many, limit) for _ in range(rows))


def some_shapes(seed, many):
    """Shapes of all sizes whose tables look as if by chance, with many noughts and ones."""
    numbers = Numbers(seed)
    for _ in range(many):
        p = (2, 3, 5, 7, 257, 65521)[numbers.below(6)]
        n, c, e = 1 + numbers.below(6), numbers.below(6), numbers.below(4)
        kinds = numbers.below(3)
        choices = ((0, 1, p - 1), (1, p - 1), ())[kinds]
        rows = []
        for _ in range(c):
            row = numbers.row(n, p)
            rows.append(tuple(choices[number % len(choices)] for number in row) if choices else row)
        yield p, (1, 2, 32)[numbers.below(3)], n, tuple(rows), e


def some_story(numbers, shape):
    """A story that looks as if by chance."""
    p, wide, n, table, _ = shape
    x = numbers.below(n)
    came = tuple(shelf for shelf in (*range(len(table)), len(table) + x) if numbers.below(2))
    return numbers.matrix(n, wide, p), x, numbers.row(wide, p), came
