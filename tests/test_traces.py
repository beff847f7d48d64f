"""Traces [15], and losses [7] where a trace asks for one."""

import itertools
import unittest

from sumstand.errors import BadShelf
from sumstand.stripes import stripe
from sumstand.traces import trace
from tests.helpers import Case, NO_NUMBERS, NO_TUPLES, SHAPE

SHAPES = (
    SHAPE,
    (11, 1, 3, ((1, 1, 1), (1, 5, 2), (1, 9, 7)), 1),
    (2, 1, 2, ((1, 0), (0, 1)), 1),
    (5, 1, 2, ((1, 2), (0, 3), (4, 0), (2, 2)), 0),
    (7, 1, 1, (), 1),
)


def rising(parts):
    """All rising tuples of some of the parts."""
    for many in range(len(parts) + 1):
        yield from itertools.combinations(parts, many)


def calls(shape):
    """All losses of a shape with the kept sums, a number of data and a mask."""
    c, n = len(shape[3]), shape[2]
    for lost in rising(range(c + n)):
        kept = tuple(j for j in range(c) if j not in lost)
        for x in range(n):
            for mask in rising(kept):
                yield lost, kept, x, mask


def shown(shape, x, kept, written):
    """What is seen on the kept sums if x is made greater by 1 and those written have come."""
    nought = ((0,),) * shape[2]
    before, behind = stripe(shape, nought), stripe(shape, nought[:x] + ((1,),) + nought[x + 1:])
    lies = [(behind if j in written else before)[j][0] for j in kept]
    return tuple((cell - before[j][0]) % shape[0] for cell, j in zip(lies, kept))


def shown_of_the_others(shape, x, kept, missing):
    """How far the kept sums are from those behind the deed if just those missing have not come."""
    nought = ((0,),) * shape[2]
    before, behind = stripe(shape, nought), stripe(shape, nought[:x] + ((1,),) + nought[x + 1:])
    lies = [(before if j in missing else behind)[j][0] for j in kept]
    return tuple((cell - behind[j][0]) % shape[0] for cell, j in zip(lies, kept))


class Traces(Case):
    def test_the_example(self):
        self.same(trace(SHAPE, (1,), 1, (0, 2)), (1, 4))

    def test_by_hand(self):
        shape = (11, 2, 3, ((1, 2, 3), (4, 5, 6), (7, 8, 9), (10, 0, 1)), 2)
        self.same(trace(shape, (), 0, (0, 1, 2, 3)), (1, 4, 7, 10))
        self.same(trace(shape, (), 0, ()), (0, 0, 0, 0))
        self.same(trace(shape, (), 2, (1,)), (0, 6, 0, 0))
        self.same(trace(shape, (0, 2), 1, (1, 3)), (5, 0))
        self.same(trace(shape, (0, 2), 1, (1,)), (5, 0))
        self.same(trace(shape, (0, 2), 2, (3,)), (0, 1))
        self.same(trace(shape, (0, 1, 2, 3), 2, ()), ())
        self.same(trace(shape, (4, 5, 6), 2, (0, 3)), (3, 0, 0, 1))
        self.same(trace(shape, (3, 4), 0, (0, 2)), (1, 0, 7))

    def test_the_greatest_shape(self):
        table = tuple(tuple(65520 - 10 * j - x for x in range(6)) for j in range(5))
        shape = (65521, 32, 6, table, 3)
        self.same(trace(shape, (), 5, (0, 4)), (65515, 0, 0, 0, 65475))
        self.same(trace(shape, (0, 5, 10), 0, (1, 3)), (65510, 0, 65490, 0))

    def test_all_calls_as_they_are_told(self):
        for shape in SHAPES:
            for lost, kept, x, mask in calls(shape):
                told = tuple(shape[3][j][x] if j in mask else 0 for j in kept)
                self.same(trace(shape, lost, x, mask), told)

    def test_a_trace_is_what_a_deed_shows(self):
        for shape in SHAPES:
            for lost, kept, x, mask in calls(shape):
                found = trace(shape, lost, x, mask)
                self.same(found, shown(shape, x, kept, mask))
                negative = tuple(-number % shape[0] for number in found)
                self.same(negative, shown_of_the_others(shape, x, kept, mask))

    def test_without_sums(self):
        self.same(trace((7, 1, 3, (), 1), (), 2, ()), ())
        self.same(trace((7, 1, 3, (), 1), (0, 1, 2), 0, ()), ())
        self.refused(BadShelf, -1, trace, (7, 1, 3, (), 1), (), 2, (0,))

    def test_more_lost_shelves_than_are_stood(self):
        self.same(trace(SHAPE, (0, 1, 2, 3, 4), 0, ()), ())
        self.same(trace(SHAPE[:4] + (0,), (0, 3), 1, (2,)), (0, 4))

    def test_the_shape_is_asked_first(self):
        self.wants_shape(trace, (1,), 1, (0, 2))
        self.wants_shape(trace, None, None, None)

    def test_the_loss(self):
        wrong = NO_TUPLES + ((-1,), (5,), (0, 5), (0, 0), (1, 0), (0, 2, 1), (0, 1, 2, 3, 4, 5))
        wrong += tuple((part,) for part in NO_NUMBERS) + ((0, True), (False, 1), (0, "1"), ((0, 1),))
        for lost in wrong:
            for x in (1, 2, None):
                with self.subTest(lost=lost, x=x):
                    self.refused(BadShelf, -1, trace, SHAPE, lost, x, (2,))

    def test_the_data(self):
        for x in NO_NUMBERS + (-2, -1, 2, 3, 10**999):
            for mask in ((0, 2), (1,), None):
                with self.subTest(x=x, mask=mask):
                    self.refused(BadShelf, x, trace, SHAPE, (1,), x, mask)

    def test_the_mask(self):
        wrong = NO_TUPLES + ((-1,), (1,), (3,), (4,), (0, 1), (0, 1, 2), (0, 0), (2, 0), (0, 3))
        wrong += tuple((part,) for part in NO_NUMBERS) + ((0, True), (False, 2), (0, "2"), ((0, 2),))
        for mask in wrong:
            with self.subTest(mask=mask):
                self.refused(BadShelf, -1, trace, SHAPE, (1,), 1, mask)


if __name__ == "__main__":
    unittest.main()
