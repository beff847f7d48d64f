"""Shapes [1] and their limits [0.4]."""

import unittest

from sumstand.errors import BadShape, BadShelf
from sumstand.shapes import column, made_shape
from tests.helpers import Case, NO_NUMBERS, NO_TUPLES, ROW_SHAPE, SHAPE, nested


def with_part(index, part):
    return SHAPE[:index] + (part,) + SHAPE[index + 1:]


RIGHT_SHAPES = (
    SHAPE,
    ROW_SHAPE,
    (2, 1, 1, (), 0),
    (2, 1, 1, ((0,), (1,)), 3),
    (2, 32, 6, ((0, 1, 0, 1, 0, 1),) * 5, 3),
    (65521, 32, 6, ((65520, 0, 1, 2, 3, 65520),) * 5, 3),
    (3, 1, 6, (), 2),
    (11, 1, 3, ((1, 1, 1), (1, 5, 2), (1, 9, 7)), 1),
    (2, 1, 2, ((1, 0), (0, 1)), 1),
    (257, 8, 3, ((0, 0, 0),), 0),
)


class MadeShape(Case):
    def test_shapes_are_returned(self):
        for shape in RIGHT_SHAPES:
            with self.subTest(shape=shape):
                self.same(made_shape(shape), shape)

    def test_what_is_no_tuple_of_five(self):
        wrong = NO_TUPLES + ((), (7,), SHAPE[:4], SHAPE + (1,), (SHAPE,), nested(50), (0,) * 9999)
        for thing in wrong:
            with self.subTest(thing=thing):
                self.refused(BadShape, -1, made_shape, thing)

    def test_the_prime(self):
        for p in NO_NUMBERS + (-7, -2, -1, 0, 1, 4, 6, 8, 9, 65520, 65522, 65537, 63001, 10**999):
            with self.subTest(p=p):
                self.refused(BadShape, 0, made_shape, (p, 1, 1, (), 0))
        for p in (2, 3, 5, 7, 257, 65519, 65521):
            with self.subTest(p=p):
                self.same(made_shape((p, 1, 1, (), 0)), (p, 1, 1, (), 0))

    def test_how_wide_cells_are(self):
        for wide in NO_NUMBERS + (-1, 0, 33, 34, 10**999):
            with self.subTest(wide=wide):
                self.refused(BadShape, 1, made_shape, with_part(1, wide))
        for wide in range(1, 33):
            self.same(made_shape(with_part(1, wide)), with_part(1, wide))

    def test_how_many_data_shelves_there_are(self):
        for n in NO_NUMBERS + (-1, 0, 7, 8, 10**999):
            with self.subTest(n=n):
                self.refused(BadShape, 2, made_shape, (7, 1, n, (), 1))
        for n in range(1, 7):
            shape = (7, 1, n, ((1,) * n,), 1)
            self.same(made_shape(shape), shape)

    def test_how_many_sums_there_are(self):
        for many in range(6):
            shape = with_part(3, ((1, 6),) * many)
            self.same(made_shape(shape), shape)
        for many in (6, 7, 9999):
            with self.subTest(many=many):
                self.refused(BadShape, 3, made_shape, with_part(3, ((1, 6),) * many))

    def test_the_rows_of_the_table(self):
        for table in NO_TUPLES + ((1, 1), ("11",), "11", nested(50)):
            with self.subTest(table=table):
                self.refused(BadShape, 3, made_shape, with_part(3, table))
        for row in NO_TUPLES + ((), (1,), (1, 1, 1), ((1, 1),), ((1,), (1,)), "11"):
            for table in ((row,), ((1, 1), row), (row, (1, 1)), ((1, 1),) * 4 + (row,)):
                with self.subTest(table=table):
                    self.refused(BadShape, 3, made_shape, with_part(3, table))

    def test_the_numbers_of_the_table(self):
        for number in NO_NUMBERS + (-1, 7, 8, 10**999, -10**999):
            for row in ((number, 1), (1, number)):
                with self.subTest(row=row):
                    self.refused(BadShape, 3, made_shape, with_part(3, ((1, 1), row)))
        for number in range(7):
            shape = with_part(3, ((number, 6 - number),))
            self.same(made_shape(shape), shape)

    def test_how_many_losses_are_stood(self):
        for e in NO_NUMBERS + (-1, 4, 5, 10**999):
            with self.subTest(e=e):
                self.refused(BadShape, 4, made_shape, with_part(4, e))
        for e in range(4):
            self.same(made_shape(with_part(4, e)), with_part(4, e))

    def test_the_first_wrong_part_is_told(self):
        wrong = (8, 0, 0, None, -1)
        for index in range(5):
            with self.subTest(index=index):
                self.refused(BadShape, index, made_shape, SHAPE[:index] + wrong[index:])


class Column(Case):
    def test_the_example(self):
        self.same(column(ROW_SHAPE, 1, (0, 2)), (1, 3))

    def test_columns_of_all_masks(self):
        shape = (11, 2, 3, ((1, 2, 3), (4, 5, 6), (7, 8, 9), (10, 0, 1)), 2)
        self.same(column(shape, 0, (0, 1, 2, 3)), (1, 4, 7, 10))
        self.same(column(shape, 1, (0, 1, 2, 3)), (2, 5, 8, 0))
        self.same(column(shape, 2, (0, 1, 2, 3)), (3, 6, 9, 1))
        self.same(column(shape, 2, (1, 3)), (6, 1))
        self.same(column(shape, 0, (2,)), (7,))
        self.same(column(shape, 1, ()), ())

    def test_the_greatest_shape(self):
        table = tuple(tuple(range(10 * j, 10 * j + 6)) for j in range(5))
        shape = (65521, 32, 6, table, 3)
        self.same(column(shape, 5, (0, 1, 2, 3, 4)), (5, 15, 25, 35, 45))
        self.same(column(shape, 0, (4,)), (40,))

    def test_without_sums(self):
        self.same(column((7, 1, 3, (), 1), 2, ()), ())
        self.refused(BadShelf, -1, column, (7, 1, 3, (), 1), 2, (0,))

    def test_the_shape_is_asked_first(self):
        self.wants_shape(column, 1, (0, 2))
        self.wants_shape(column, None, None)

    def test_the_data(self):
        for x in NO_NUMBERS + (-2, -1, 2, 3, 10**999):
            for kept in ((0, 2), None, (3,)):
                with self.subTest(x=x, kept=kept):
                    self.refused(BadShelf, x, column, SHAPE, x, kept)

    def test_the_kept_sums(self):
        wrong = NO_TUPLES + ((3,), (-1,), (0, 3), (0, 0), (1, 0), (0, 2, 1), (0, 1, 2, 2), (0, 1, 2, 3))
        wrong += tuple((part,) for part in NO_NUMBERS) + ((0, True), (False, 1), (0, "1"), ((0, 1),))
        for kept in wrong:
            with self.subTest(kept=kept):
                self.refused(BadShelf, -1, column, SHAPE, 1, kept)


if __name__ == "__main__":
    unittest.main()
