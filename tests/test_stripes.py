"""Shelves and cells [2], data [3], right rows [4] and left rows [5]."""

import unittest

from sumstand.errors import BadCell
from sumstand.stripes import lost_of, made_data, made_left, stripe, sums
from tests.helpers import Case, NO_NUMBERS, NO_TUPLES, Numbers, ROW_SHAPE, SHAPE, nested

WIDE_SHAPE = (5, 3, 2, ((1, 2),), 1)
GREATEST = (65521, 32, 6, tuple(tuple(65520 - 6 * j - x for x in range(6)) for j in range(5)), 3)

# Shapes of all sizes: the least one, no sum, five sums, one and six data, wide cells.
SHAPES = (
    SHAPE,
    ROW_SHAPE,
    WIDE_SHAPE,
    GREATEST,
    (2, 1, 1, (), 0),
    (2, 1, 1, ((0,), (1,)), 0),
    (2, 4, 3, ((1, 0, 1), (1, 1, 1)), 1),
    (3, 2, 6, (), 3),
    (7, 1, 1, ((1,), (1,), (1,)), 1),
    (13, 2, 4, ((0, 1, 2, 3), (12, 0, 0, 12), (0, 0, 0, 0), (1, 1, 1, 1), (5, 6, 7, 8)), 2),
)

# What is no cell of a shape with cells of one number below 7.
NO_CELLS = NO_TUPLES[1:] + ((), (0, 0), (7,), (-1,), (10**999,)) + tuple((part,) for part in NO_NUMBERS)


def some_data(numbers, shape):
    return numbers.matrix(shape[2], shape[1], shape[0])


def sum_told(shape, data, j):
    """The sum j as [4] tells it, number by number."""
    found = []
    for place in range(shape[1]):
        total = 0
        for x in range(shape[2]):
            total += shape[3][j][x] * data[x][place]
        found.append(total % shape[0])
    return tuple(found)


class MadeData(Case):
    def test_data_are_returned(self):
        numbers = Numbers(3)
        for shape in SHAPES:
            for _ in range(5):
                data = some_data(numbers, shape)
                self.same(made_data(shape, data), data)

    def test_numbers_up_to_below_the_prime(self):
        for number in range(7):
            self.same(made_data(SHAPE, ((number,), (6 - number,))), ((number,), (6 - number,)))
        self.refused(BadCell, 0, made_data, SHAPE, ((7,), (0,)))
        self.refused(BadCell, 1, made_data, SHAPE, ((6,), (-1,)))
        self.refused(BadCell, 0, made_data, (2, 1, 1, (), 0), ((2,),))
        self.same(made_data((65521, 1, 1, (), 0), ((65520,),)), ((65520,),))
        self.refused(BadCell, 0, made_data, (65521, 1, 1, (), 0), ((65521,),))

    def test_cells_of_one_and_of_32_numbers(self):
        for wide in (1, 2, 31, 32):
            shape = (7, wide, 1, ((1,),), 1)
            self.same(made_data(shape, ((6,) * wide,)), ((6,) * wide,))
            self.refused(BadCell, 0, made_data, shape, ((6,) * (wide - 1),))
            self.refused(BadCell, 0, made_data, shape, ((6,) * (wide + 1),))
            for place in range(wide):
                cell = (6,) * place + (7,) + (6,) * (wide - 1 - place)
                self.refused(BadCell, 0, made_data, shape, (cell,))

    def test_what_is_no_tuple_of_n(self):
        cell = (1,)
        for data in NO_TUPLES + ((), (cell,), (cell,) * 3, (None,) * 3, nested(50), (cell,) * 9999):
            with self.subTest(data=data):
                self.refused(BadCell, -1, made_data, SHAPE, data)
        # As many as there are shelves is right for left rows, not for data.
        self.refused(BadCell, -1, made_data, SHAPE, (cell,) * 5)

    def test_what_is_no_cell(self):
        for cell in NO_CELLS + (None,):
            with self.subTest(cell=cell):
                self.refused(BadCell, 0, made_data, SHAPE, (cell, (1,)))
                self.refused(BadCell, 1, made_data, SHAPE, ((1,), cell))

    def test_the_first_wrong_cell_is_told(self):
        shape = (7, 2, 6, (), 0)
        for first in range(6):
            data = ((0, 6),) * first + ((0, 7),) * (6 - first)
            self.refused(BadCell, first, made_data, shape, data)

    def test_the_shape_is_asked_first(self):
        self.wants_shape(made_data, ((1,), (2,)))
        self.wants_shape(made_data, None)


class RightRows(Case):
    def test_the_example(self):
        self.same(sums(ROW_SHAPE, ((3,), (5,))), ((1,), (6,), (4,)))
        self.same(stripe(ROW_SHAPE, ((3,), (5,))), ((1,), (6,), (4,), (3,), (5,)))

    def test_the_right_rows_of_the_deed(self):
        self.same(stripe(SHAPE, ((3,), (5,))), ((1,), (6,), (2,), (3,), (5,)))
        self.same(stripe(SHAPE, ((4,), (5,))), ((2,), (0,), (3,), (4,), (5,)))

    def test_wide_cells_place_by_place(self):
        self.same(sums(WIDE_SHAPE, ((1, 2, 3), (4, 0, 1))), ((4, 2, 0),))
        self.same(stripe(WIDE_SHAPE, ((1, 2, 3), (4, 0, 1))), ((4, 2, 0), (1, 2, 3), (4, 0, 1)))

    def test_with_the_prime_2(self):
        shape = (2, 1, 3, ((1, 1, 1), (1, 0, 1)), 1)
        self.same(sums(shape, ((1,), (1,), (1,))), ((1,), (0,)))
        self.same(sums(shape, ((1,), (1,), (0,))), ((0,), (1,)))

    def test_with_the_greatest_prime(self):
        shape = (65521, 1, 6, ((65520,) * 6,), 1)
        # 65520 is -1 there, so each product is 1.
        self.same(sums(shape, ((65520,),) * 6), ((6,),))

    def test_without_a_sum(self):
        data = ((1, 2), (0, 1), (2, 2))
        self.same(sums((3, 2, 3, (), 1), data), ())
        self.same(stripe((3, 2, 3, (), 1), data), data)

    def test_sums_as_they_are_told(self):
        numbers = Numbers(5)
        for shape in SHAPES:
            for _ in range(5):
                data = some_data(numbers, shape)
                told = tuple(sum_told(shape, data, j) for j in range(len(shape[3])))
                self.same(sums(shape, data), told)
                self.same(stripe(shape, data), told + data)

    def test_nought_has_noughts(self):
        for shape in SHAPES:
            nought = (0,) * shape[1]
            self.same(stripe(shape, (nought,) * shape[2]), (nought,) * (len(shape[3]) + shape[2]))

    def test_where_right_rows_differ(self):
        numbers = Numbers(7)
        for shape in SHAPES:
            data = some_data(numbers, shape)
            for x in range(shape[2]):
                cell = ((data[x][0] + 1) % shape[0],) + data[x][1:]
                one, two = stripe(shape, data), stripe(shape, data[:x] + (cell,) + data[x + 1:])
                differ = [shelf for shelf in range(len(one)) if one[shelf] != two[shelf]]
                due = [j for j, row in enumerate(shape[3]) if row[x] != 0] + [len(shape[3]) + x]
                self.assertEqual(differ, due)

    def test_wrong_shapes_and_data(self):
        for call in (sums, stripe):
            self.wants_shape(call, ((3,), (5,)))
            self.wants_shape(call, None)
            for data in NO_TUPLES + ((), ((3,),), ((3,),) * 3, ((3,),) * 5):
                with self.subTest(call=call, data=data):
                    self.refused(BadCell, -1, call, SHAPE, data)
            for cell in NO_CELLS + (None,):
                with self.subTest(call=call, cell=cell):
                    self.refused(BadCell, 0, call, SHAPE, (cell, cell))
                    self.refused(BadCell, 1, call, SHAPE, ((6,), cell))


class LeftRows(Case):
    def test_left_rows_are_returned(self):
        row = stripe(SHAPE, ((3,), (5,)))
        for chosen in range(32):
            left = tuple(cell if chosen >> shelf & 1 else None for shelf, cell in enumerate(row))
            self.same(made_left(SHAPE, left), left)

    def test_cells_need_not_be_those_of_a_right_row(self):
        self.same(made_left(SHAPE, ((6,), (6,), (6,), (6,), (6,))), ((6,), (6,), (6,), (6,), (6,)))

    def test_of_all_shapes(self):
        numbers = Numbers(11)
        for shape in SHAPES:
            row = stripe(shape, some_data(numbers, shape))
            self.same(made_left(shape, row), row)
            self.same(made_left(shape, (None,) * len(row)), (None,) * len(row))

    def test_what_is_no_tuple_of_all_shelves(self):
        cell = (1,)
        wrong = NO_TUPLES + ((), (cell,) * 2, (cell,) * 3, (cell,) * 4, (cell,) * 6, (None,) * 4, nested(50))
        for left in wrong:
            with self.subTest(left=left):
                self.refused(BadCell, -1, made_left, SHAPE, left)

    def test_what_is_neither_a_cell_nor_none(self):
        row = stripe(SHAPE, ((3,), (5,)))
        for cell in NO_CELLS:
            for shelf in range(5):
                with self.subTest(cell=cell, shelf=shelf):
                    self.refused(BadCell, shelf, made_left, SHAPE, row[:shelf] + (cell,) + row[shelf + 1:])

    def test_the_first_wrong_one_is_told(self):
        self.refused(BadCell, 1, made_left, SHAPE, (None, (7,), (0,), False, None))
        self.refused(BadCell, 3, made_left, SHAPE, (None, (6,), (0,), False, (7,)))

    def test_the_shape_is_asked_first(self):
        self.wants_shape(made_left, (None,) * 5)
        self.wants_shape(made_left, True)

    def test_which_shelves_are_lost(self):
        self.same(lost_of(((1,), (0,), (2,), (4,), None)), (4,))
        self.same(lost_of(((1,), (6,), (2,), None, None)), (3, 4))
        self.same(lost_of((None, (0,), None, (0,), (0,))), (0, 2))
        self.same(lost_of(((0,), (0,), (0,))), ())
        self.same(lost_of(((0, 0), None)), (1,))
        self.same(lost_of((None,) * 11), tuple(range(11)))

    def test_which_shelves_are_lost_of_all_left_rows(self):
        row = stripe(SHAPE, ((0,), (0,)))
        for chosen in range(32):
            left = tuple(cell if chosen >> shelf & 1 else None for shelf, cell in enumerate(row))
            self.same(lost_of(left), tuple(shelf for shelf in range(5) if not chosen >> shelf & 1))


if __name__ == "__main__":
    unittest.main()
