"""Mending a row [35], and what a stopped mend leaves [36]."""

import unittest

from sumstand.batches import do, stopped
from sumstand.errors import BadRow, Spoilt
from sumstand.mending import ask, mend_row
from sumstand.shelves import Array, is_whole, told_data
from tests.arrays import BITS, COPIES, ELEVEN, copied, filled, part_of_great, seen, some_losses, some_row, with_data
from tests.helpers import Case, GREAT, GREAT_TABLE, NO_NUMBERS, Numbers, SHAPE
from tests.listing import losses, put, right_of, rising, shelves, unbroken_rows

# Shapes that stand, of which the rows that stories leave can be listed.
SMALL = (BITS, (3, 1, 1, ((1,), (2,)), 1), (2, 1, 1, ((1,), (1,), (1,)), 2), (2, 1, 2, ((1, 1),), 0))


def torn_array(shape, row, lost):
    """An array with one row of these cells, of which some shelves are lost."""
    array = filled(shape, [row])
    for shelf in lost:
        array.lose(shelf)
    return array


class Mends(Case):
    def test_the_example(self):
        array = filled(COPIES, [((0,), (3,), (0,), (3,))])
        before = seen(array)
        self.same(mend_row(array, 0), ((1, 0, (0,)), (3, 0, (0,))))
        self.same(ask(array, 0), ((((1, 0, (0,)), (3, 0, (0,))),), ((0,),)))
        self.same(seen(array), before)

    def test_a_whole_row(self):
        array = with_data(SHAPE, [((3,), (5,))])
        self.same(mend_row(array, 0), ())
        self.same(ask(array, 0), ((), ((3,), (5,))))
        array.lose(3)
        self.same(mend_row(array, 0), ())
        self.same(ask(array, 0), ((), ((3,), (5,))))

    def test_of_several_rows_just_the_one_that_is_asked(self):
        array = filled(SHAPE, [((1,), (0,), (2,), (3,), (5,)), ((2,), (0,), (3,), (3,), (5,))])
        self.same(mend_row(array, 0), ((1, 0, (6,)),))
        self.same(mend_row(array, 1), ((3, 1, (4,)),))
        self.same(ask(array, 1), ((((3, 1, (4,)),),), ((4,), (5,))))
        do(array, (mend_row(array, 1),))
        self.same([is_whole(array, row) for row in (0, 1)], [False, True])

    def test_nothing_is_written_to_filling_lost_and_new_shelves(self):
        shape = part_of_great(1, 2, 4)
        right = right_of(shape, ((5,), (6,)))
        array = filled(shape, [put(right, 2, (1,))])
        array.lose(0)
        array.lose(1)
        array.replace(1, ((2,),))
        array.new(tuple(row[2] for row in GREAT_TABLE[:4]), ((3,),))
        self.same(told_data(array, 0), ((5,), (6,)))
        self.same(mend_row(array, 0), ((2, 0, right[2]),))
        do(array, (mend_row(array, 0),))
        self.same(is_whole(array, 0), True)
        self.same([array.cell(0, shelf) for shelf in (0, 1, 6)], [None, (2,), (3,)])

    def test_other_data_may_be_told_of_a_torn_row_when_one_more_is_lost(self):
        array = filled(COPIES, [((0,), (3,), (0,), (3,))])
        self.same(told_data(array, 0), ((0,),))
        array.lose(2)
        self.same(told_data(array, 0), ((3,),))

    def test_refusals(self):
        array = filled(SHAPE, [((1,), (6,), (2,), (3,), (5,)), ((1,), (3,), (0,), (0,), (0,))])
        before = seen(array)
        for call in (mend_row, ask):
            for row in NO_NUMBERS + (-1, 2, 64, 10**999):
                self.refused(BadRow, row, call, array, row)
            self.refused(Spoilt, 1, call, array, 1)
        self.same(mend_row(row=0, array=array), ())
        self.same(ask(row=0, array=array), ((), ((3,), (5,))))
        self.same(seen(array), before)

    def test_just_the_kept_cells_that_are_not_the_told_ones(self):
        numbers = Numbers(3)
        for shape in (SHAPE, ELEVEN, COPIES[:4] + (2,), part_of_great(3, 4, 4)):
            for lost in some_losses(shape, shape[4], 15):
                row, _ = some_row(numbers, shape)
                array = torn_array(shape, row, lost)
                data = told_data(array, 0)
                due = right_of(shape, data)
                told = tuple((s, 0, due[s]) for s in range(len(row)) if s not in lost and row[s] != due[s])
                self.same(mend_row(array, 0), told)
                self.same(ask(array, 0), ((told,) if told else (), data))
                self.assertIs(is_whole(array, 0), not told)


class StoppedMends(Case):
    def hold(self, shape, row, lost):
        """Whichever writes of the mend are done, the same is told; when it is whole, behind each further loss."""
        array = torn_array(shape, row, lost)
        data = told_data(array, 0)
        batch = mend_row(array, 0)
        for came in rising(range(len(batch))):
            other = copied(array)
            do(other, tuple((batch[index],) for index in came))
            self.same(told_data(other, 0), data)
            rest = tuple(write for index, write in enumerate(batch) if index not in came)
            self.same(mend_row(other, 0), rest)
        do(array, (batch,) if batch else ())
        self.same(is_whole(array, 0), True)
        self.same(mend_row(array, 0), ())
        for more in losses(shape, shape[4]):
            if set(lost) <= set(more):
                other = copied(array)
                for shelf in more:
                    other.lose(shelf)
                self.same(told_data(other, 0), data)
                self.same(is_whole(other, 0), True)

    def test_all_rows_that_stories_leave_of_small_shapes(self):
        for shape in SMALL:
            for row in unbroken_rows(shape):
                for lost in losses(shape, shape[4]):
                    with self.subTest(shape=shape, row=row, lost=lost):
                        self.hold(shape, row, lost)

    def test_rows_that_stories_leave(self):
        numbers = Numbers(5)
        for shape in (SHAPE, ELEVEN, COPIES, COPIES[:4] + (2,), part_of_great(2, 2, 4)):
            for lost in some_losses(shape, shape[4], 8):
                for _ in range(3):
                    row, story_ends = some_row(numbers, shape)
                    with self.subTest(shape=shape, row=row, lost=lost):
                        self.assertIn(told_data(torn_array(shape, row, lost), 0), story_ends)
                        self.hold(shape, row, lost)

    def test_the_same_behind_several_stops(self):
        numbers = Numbers(7)
        for shape in (SHAPE, ELEVEN, part_of_great(1, 3, 4)):
            for _ in range(10):
                row, _ = some_row(numbers, shape)
                array = filled(shape, [row])
                data = told_data(array, 0)
                while not is_whole(array, 0):
                    batch = mend_row(array, 0)
                    stopped(array, (batch,), 0, (numbers.below(len(batch)),))
                    self.same(told_data(array, 0), data)
                self.same(array.left(0), right_of(shape, data))

    def test_filling_and_lost_shelves_while_it_is_mended(self):
        numbers = Numbers(11)
        shape = part_of_great(2, 3, 4)
        for _ in range(10):
            row, _ = some_row(numbers, shape)
            array = filled(shape, [row])
            array.lose(numbers.below(7))
            shelf = numbers.below(7)
            array.lose(shelf)
            array.replace(shelf, (numbers.row(2, 65521),))
            data = told_data(array, 0)
            do(array, ask(array, 0)[0])
            self.same(told_data(array, 0), data)
            self.same(is_whole(array, 0), True)

    def test_of_the_greatest_shape(self):
        numbers = Numbers(13)
        rows, ends = zip(*[some_row(numbers, GREAT) for _ in range(64)])
        array = filled(GREAT, rows)
        for shelf in (0, 5, 10):
            array.lose(shelf)
        for row in range(64):
            code, data = ask(array, row)
            self.assertIn(data, ends[row])
            do(array, code)
            self.same(told_data(array, row), data)
            self.same(is_whole(array, row), True)

    def test_copies_of_the_copies(self):
        array = Array(COPIES, 2)
        self.same(shelves(COPIES), 4)
        do(array, (((1, 1, (3,)), (3, 1, (3,))),))
        self.same([mend_row(array, row) for row in (0, 1)], [(), ((1, 1, (0,)), (3, 1, (0,)))])


if __name__ == "__main__":
    unittest.main()
