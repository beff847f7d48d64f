"""The data cells of an array by their addresses [34]."""

import unittest

from sumstand.batches import deed, do
from sumstand.cellstore import Cells
from sumstand.errors import BadAddress, BadWrite, Spoilt, Unwhole
from sumstand.mending import mend_row
from sumstand.shelves import Array, told_data
from tests.arrays import BITS, ELEVEN, STANDING, copied, filled, part_of_great, seen, some_row, with_data
from tests.helpers import Case, GREAT, GREAT_TABLE, NO_NUMBERS, NO_TUPLES, Numbers, SHAPE, nested
from tests.listing import put, right_of

NO_CELLS = NO_TUPLES + ((), (0, 0), (7,), (-1,), (10**999,)) + tuple((part,) for part in NO_NUMBERS)

# Of SHAPE: a row that is whole, one that is torn and one that no story leaves.
WHOLE = ((1,), (6,), (2,), (3,), (5,))
TORN = ((1,), (0,), (2,), (3,), (5,))
SPOILT = ((1,), (3,), (0,), (0,), (0,))


class Sizes(Case):
    def test_how_many_addresses_there_are(self):
        for shape in STANDING:
            for rows in (1, 2, 64):
                self.same(Cells(Array(shape, rows)).size(), shape[2] * rows)

    def test_a_cells_tells_of_its_array_as_it_is(self):
        array = Array(SHAPE, 2)
        cells = Cells(array=array)
        do(array, (deed(array, 1, 0, (4,)), deed(array, 0, 1, (6,)))[0])
        self.same(cells.look(a=1), (4,))
        do(array, deed(array, 1, 0, (2,)))
        self.same(cells.look(1), (2,))
        self.same(Cells(array).look(1), (2,))

    def test_sums_and_new_shelves_are_not_counted(self):
        array = Array(part_of_great(1, 2, 3), 4)
        cells = Cells(array)
        array.new(GREAT_TABLE[0][:3], ((0,),) * 4)
        self.same(cells.size(), 8)
        array.lose(5)
        array.sum_more(GREAT_TABLE[3][:2], ((0,),) * 4)
        self.same(cells.size(), 8)

    def test_its_methods_are_defined_in_it(self):
        for name in ("size", "look", "drive"):
            self.assertIn(name, vars(Cells))


class Looks(Case):
    def test_each_cell_at_its_address(self):
        numbers = Numbers(3)
        for shape in STANDING:
            rows = [numbers.matrix(shape[2], shape[1], shape[0]) for _ in range(4)]
            array = with_data(shape, rows)
            for shelf in range(shape[4]):
                array.lose(len(shape[3]) + shape[2] - 1 - shelf)
            cells = Cells(array)
            for x in range(shape[2]):
                for row in range(4):
                    self.same(cells.look(x * 4 + row), rows[row][x])

    def test_by_hand(self):
        array = with_data(SHAPE, [((3,), (5,)), ((1,), (2,)), ((0,), (6,))])
        self.same([Cells(array).look(a) for a in range(6)], [(3,), (1,), (0,), (5,), (2,), (6,)])

    def test_wrong_addresses(self):
        array = filled(SHAPE, [SPOILT, WHOLE])
        for a in NO_NUMBERS + (-1, 4, 5, 10**999):
            self.refused(BadAddress, a, Cells(array).look, a)

    def test_torn_and_spoilt_rows(self):
        array = filled(SHAPE, [WHOLE, TORN, SPOILT])
        before = seen(array)
        cells = Cells(array)
        self.same([cells.look(0), cells.look(3)], [(3,), (5,)])
        for a, row in ((1, 1), (4, 1), (2, 2), (5, 2)):
            self.refused(Unwhole, row, cells.look, a)
        self.same(seen(array), before)
        do(array, (mend_row(array, 1),))
        self.same([cells.look(1), cells.look(4)], [(3,), (5,)])
        # Without the sum that is off the row is whole.
        array = filled(SHAPE, [TORN])
        array.lose(1)
        self.same(Cells(array).look(0), (3,))

    def test_filling_shelves_are_not_asked(self):
        array = with_data(BITS, [((1,), (0,))])
        array.lose(2)
        array.replace(2, ((0,),))
        self.same(Cells(array).look(0), (1,))


class Drives(Case):
    def hold(self, array, writes):
        """The code of writes, beside doing the deeds one by one."""
        before = seen(array)
        code = Cells(array).drive(writes)
        self.same(seen(array), before)
        self.same(Cells(array).drive(writes), code)
        one, two = copied(array), copied(array)
        told = ()
        for a, cell in writes:
            part = deed(one, a % array.rows, a // array.rows, cell)
            do(one, part)
            told += part
        self.same(code, told)
        do(two, code)
        self.same(seen(two), seen(one))
        for a, cell in dict(writes).items():
            self.same(Cells(two).look(a), cell)

    def test_beside_the_deeds_one_by_one(self):
        numbers = Numbers(5)
        for shape in (SHAPE, BITS, ELEVEN, part_of_great(2, 4, 4), (7, 2, 3, (), 0)):
            p, wide, n, _, e = shape
            for rows in (1, 3):
                array = filled(shape, [some_row(numbers, shape)[0] for _ in range(rows)])
                for shelf in range(e):
                    array.lose(shelf * 2)
                if e:
                    array.replace(0, numbers.matrix(rows, wide, p))
                for many in (0, 1, 2, 5, 12):
                    self.hold(array, tuple(
                        (numbers.below(n * rows), numbers.row(wide, min(p, 3))) for _ in range(many)
                    ))

    def test_by_hand(self):
        array = filled(SHAPE, [WHOLE, TORN])
        self.same(Cells(array).drive(()), ())
        self.same(Cells(array).drive(((0, (3,)),)), ())
        self.same(Cells(array).drive(((1, (3,)),)), (((1, 1, (6,)),),))
        self.same(Cells(array).drive(writes=((0, (4,)), (1, (3,)), (0, (3,)), (2, (5,)))), (
            ((0, 0, (2,)), (1, 0, (0,)), (2, 0, (3,)), (3, 0, (4,))),
            ((1, 1, (6,)),),
            ((0, 0, (1,)), (1, 0, (6,)), (2, 0, (2,)), (3, 0, (3,))),
        ))

    def test_one_address_twice_and_the_same_cell(self):
        array = filled(SHAPE, [WHOLE, TORN])
        self.hold(array, ((0, (4,)), (0, (4,)), (0, (4,))))
        self.hold(array, ((1, (4,)), (1, (3,)), (3, (5,)), (1, (3,)), (1, (0,))))
        self.same(len(Cells(array).drive(((0, (4,)), (0, (4,)), (0, (5,)), (0, (3,))))), 3)

    def test_a_torn_row_is_mended_once_ahead_of_its_first_one(self):
        array = filled(SHAPE, [TORN, TORN])
        code = Cells(array).drive(((2, (6,)), (1, (3,)), (0, (6,)), (3, (1,))))
        self.same([batch[0][1] for batch in code], [0, 0, 1, 0, 1])
        self.same((code[0], code[2]), (mend_row(array, 0), mend_row(array, 1)))
        self.hold(array, ((2, (6,)), (1, (3,)), (0, (6,)), (3, (1,))))

    def test_filling_and_new_shelves(self):
        array = with_data(part_of_great(1, 2, 3), [((3,), (5,)), ((0,), (0,))])
        array.new(tuple(row[2] for row in GREAT_TABLE[:3]), ((1,), (2,)))
        array.lose(0)
        array.replace(0, ((0,), (0,)))
        code = Cells(array).drive(((0, (4,)), (3, (1,))))
        self.same([[shelf for shelf, _, _ in batch] for batch in code], [[0, 1, 2, 3], [0, 1, 2, 4]])
        do(array, code)
        self.same([told_data(array, row) for row in (0, 1)], [((4,), (5,)), ((0,), (1,))])

    def test_a_spoilt_row_met_late(self):
        array = filled(SHAPE, [WHOLE, TORN, SPOILT, SPOILT])
        before = seen(array)
        cells = Cells(array)
        self.refused(Spoilt, 3, cells.drive, ((0, (4,)), (1, (4,)), (7, (1,)), (2, (1,))))
        self.refused(Spoilt, 2, cells.drive, ((0, (4,)), (6, (0,)), (3, (1,))))
        self.same(len(cells.drive(((0, (4,)), (1, (4,))))), 3)
        self.same(seen(array), before)

    def test_wrong_writes(self):
        array = filled(SHAPE, [SPOILT, WHOLE])
        before = seen(array)
        cells = Cells(array)
        right, late = (1, (4,)), (0, (4,))
        for writes in NO_TUPLES:
            self.refused(BadWrite, -1, cells.drive, writes)
        wrong = [thing for thing in NO_TUPLES + ((), (1,), (1, (4,), 0), right * 2, nested(50), (0,) * 9999)]
        wrong += [(a, (4,)) for a in NO_NUMBERS + (-1, 4, 10**999)] + [(1, cell) for cell in NO_CELLS]
        for pair in wrong:
            with self.subTest(pair=pair):
                self.refused(BadWrite, 0, cells.drive, (pair,))
                self.refused(BadWrite, 0, cells.drive, (pair, None))
                self.refused(BadWrite, 2, cells.drive, (right, right, pair))
                # The form of all is asked ahead of what a row tells.
                self.refused(BadWrite, 1, cells.drive, (late, pair))
        self.refused(BadWrite, 0, cells.drive, right)
        self.refused(Spoilt, 0, cells.drive, (right, late))
        self.same(seen(array), before)

    def test_of_the_greatest_array(self):
        numbers = Numbers(7)
        data = [numbers.matrix(6, 32, 65521) for _ in range(64)]
        array = with_data(GREAT, data)
        for shelf in (2, 6, 7):
            array.lose(shelf)
        writes = tuple((numbers.below(384), numbers.row(32, 65521)) for _ in range(40))
        do(array, Cells(array).drive(writes))
        for a, cell in dict(writes).items():
            data[a % 64] = put(data[a % 64], a // 64, cell)
        for row in range(64):
            self.same(told_data(array, row), data[row])
            left = array.left(row)
            self.assertTrue(all(cell in (None, due) for cell, due in zip(left, right_of(GREAT, data[row]))))


if __name__ == "__main__":
    unittest.main()
