"""Clean shapes, and single wrong cells [42]."""

import itertools
import unittest

from sumstand.batches import do
from sumstand.finder import table_at
from sumstand.judge import stands
from sumstand.scrub import looks, scrub
from sumstand.shelves import Array, told_data
from sumstand.spots import clean, spots
from tests.arrays import BITS, COPIES, ELEVEN, Refusing, STANDING, filled, lose_all, part_of_great, seen, twin, with_data
from tests.helpers import GREAT, Numbers, ROW_SHAPE, SHAPE, some_shapes
from tests.listing import losses, put, right_of, shelves

WHOLE = ((1,), (6,), (2,), (3,), (5,))
TORN = ((1,), (0,), (2,), (3,), (5,))
SPOILT = ((1,), (3,), (0,), (0,), (0,))


def clean_by_rule(shape):
    p, _, n, table, e = shape
    if len(table) != e + 2 or any(0 in row for row in table):
        return False
    return all(
        (table[j][x] * table[k][y] - table[j][y] * table[k][x]) % p
        for x in range(n) for y in range(n) for j in range(len(table)) for k in range(len(table))
        if x != y and j != k
    )


class Clean(Refusing):
    def test_the_example(self):
        self.same(clean(ROW_SHAPE), True)
        more = ROW_SHAPE[:3] + (((1, 1), (1, 2), (1, 3), (1, 1)), 1)
        self.same(clean(more), False)
        # By the first and the last row, also where the number of rows is right.
        self.same(clean(more[:4] + (2,)), False)
        self.same(clean(ROW_SHAPE[:4] + (0,)), False)

    def test_how_many_sums(self):
        for c in range(6):
            for e in range(4):
                shape = part_of_great(1, 3, c, e)
                self.same(clean(shape=shape), c == e + 2)

    def test_one_number_is_0(self):
        table = tuple(row[:3] for row in ELEVEN[3])
        for j in range(3):
            for x in range(3):
                row = put(table[j], x, 0)
                self.same(clean((11, 1, 3, put(table, j, row), 1)), False)
        self.same(clean(ELEVEN), True)
        self.same(clean((11, 1, 1, ((3,), (0,), (1,)), 1)), False)

    def test_one_data_shelf(self):
        self.same(clean((7, 1, 1, ((1,), (1,), (1,)), 1)), True)
        self.same(clean((2, 1, 1, ((1,), (1,)), 0)), True)
        self.same(clean((7, 1, 1, ((1,), (1,)), 1)), False)
        self.same(clean((7, 1, 1, (), 0)), False)

    def test_columns_alike_by_a_factor_on_two_rows_alone(self):
        for p in (11, 65521):
            for j, k in itertools.combinations(range(3), 2):
                for x, y in itertools.combinations(range(3), 2):
                    table = [list(row) for row in ELEVEN[3]]
                    for row in (j, k):
                        table[row][y] = table[row][x] * 3 % p
                    shape = (p, 1, 3, tuple(tuple(row) for row in table), 1)
                    self.same(clean(shape), False)

    def test_a_multiple_of_the_prime_that_is_not_0(self):
        self.same(clean((7, 1, 2, ((1, 1), (2, 2)), 0)), False)
        self.same(clean((7, 1, 2, ((1, 3), (3, 2)), 0)), False)
        self.same(clean((7, 1, 2, ((1, 3), (3, 3)), 0)), True)
        self.same(clean((65521, 1, 2, ((1, 65520), (65520, 1)), 0)), False)

    def test_beside_the_rule(self):
        found = []
        for shape in list(some_shapes(3, 400)) + list(STANDING):
            found.append(clean(shape))
            self.same(found[-1], clean_by_rule(shape))
        for number in range(60):
            for p, n, c in ((5, 2, 2), (13, 3, 3), (65521, 6, 5)):
                shape = (p, 1, n, table_at(p, n, c, number), c - 2)
                found.append(clean(shape))
                self.same(found[-1], clean_by_rule(shape))
        self.assertGreater(found.count(True), 60)
        self.assertGreater(found.count(False), 60)

    def test_it_is_no_judge(self):
        self.wants_shape(clean)


class Spots(Refusing):
    def hold_one_wrong(self, shape, data, lost, shelf, cell):
        """A right row of which this one kept cell is wrong is told right, and its spot is told."""
        right = right_of(shape, data)
        array = filled(shape, [right, put(right, shelf, cell), right])
        lose_all(array, lost)
        self.same(told_data(array, 1), data)
        self.same(looks(array), ("whole", "torn", "whole"))
        before = seen(array)
        self.same(spots(array), ((1, shelf),))
        self.same(seen(array), before)
        do(array, scrub(array))
        self.same(spots(array), ())
        self.same([told_data(array, row) for row in range(3)], [data] * 3)

    def test_one_wrong_cell_at_every_place_with_every_loss(self):
        numbers = Numbers(5)
        for shape in (ELEVEN, COPIES, (7, 1, 2, ((1, 1), (1, 2), (1, 4)), 1), part_of_great(1, 2, 4), part_of_great(2, 3, 3)):
            self.assertTrue(clean(shape) and stands(shape))
            p, wide, n, _, e = shape
            for lost in losses(shape, e):
                for shelf in range(shelves(shape)):
                    if shelf in lost:
                        continue
                    data = numbers.matrix(n, wide, p)
                    cell = right_of(shape, data)[shelf]
                    other = put(cell, numbers.below(wide), (cell[0] + 1 + numbers.below(p - 1)) % p)
                    if other != cell:
                        self.hold_one_wrong(shape, data, lost, shelf, other)

    def test_every_wrong_number_of_a_small_shape(self):
        shape = (5, 1, 1, ((1,), (1,)), 0)
        self.assertTrue(clean(shape) and stands(shape))
        for number in range(5):
            for shelf in range(3):
                for wrong in range(1, 5):
                    cell = ((number + wrong) % 5,)
                    self.hold_one_wrong(shape, ((number,),), (), shelf, cell)

    def test_of_the_greatest_array(self):
        numbers = Numbers(7)
        self.assertTrue(clean(GREAT))
        array = with_data(GREAT, [numbers.matrix(6, 32, 65521) for _ in range(64)])
        lose_all(array, (1, 7))
        told = [told_data(array, row) for row in range(64)]
        due = []
        for row in range(0, 64, 3):
            shelf = (0, 2, 3, 4, 5, 6, 8, 9, 10)[numbers.below(9)]
            do(array, (((shelf, row, numbers.row(32, 65521)),),))
            due.append((row, shelf))
        self.same(spots(array=array), tuple(due))
        self.same([told_data(array, row) for row in range(64)], told)

    def test_two_wrong_cells_spoilt_rows_and_whole_rows(self):
        two_off = ((2,), (0,), (2,), (3,), (5,))
        array = filled(SHAPE, [WHOLE, TORN, SPOILT, two_off, TORN, WHOLE])
        self.same(looks(array), ("whole", "torn", "spoilt", "torn", "torn", "whole"))
        before = seen(array)
        self.same(spots(array), ((1, 1), (4, 1)))
        self.same(seen(array), before)
        self.same(spots(filled(SHAPE, [SPOILT])), ())
        self.same(spots(filled(SHAPE, [WHOLE] * 64)), ())
        self.same(spots(filled(SHAPE, [TORN] * 64)), tuple((row, 1) for row in range(64)))

    def test_a_stop_may_have_left_such_a_row(self):
        array = Array(SHAPE, 2)
        do(array, (((3, 1, (4,)),),))
        self.same(spots(array), ((1, 3),))

    def test_filling_lost_and_new_shelves_are_not_asked(self):
        array = with_data(part_of_great(1, 2, 4), [((3,), (5,)), ((1,), (1,))])
        array.lose(0)
        array.lose(5)
        array.replace(5, ((0,), (0,)))
        array.new((1, 2, 3, 4), ((9,), (9,)))
        self.same(spots(array), ())
        torn = twin(array)
        do(torn, (((4, 0, (0,)),),))
        self.same(spots(torn), ((0, 4),))

    def test_without_two_sums_more(self):
        # What is left by one wrong cell may be told by other data; the mend has one write all the same.
        array = filled(BITS, [((1,), (0,), (0,), (0,))])
        self.same(len(spots(array)), 1)


if __name__ == "__main__":
    unittest.main()
