"""Filling replaced shelves, and trusting them [38]."""

import unittest

from sumstand.batches import deed, do, stopped
from sumstand.errors import Spoilt, Torn, Unlike
from sumstand.filling import fill, trust
from sumstand.mending import mend_row
from sumstand.scrub import looks, scrub
from sumstand.shelves import Array, told_data
from tests.arrays import (
    BITS, COPIES, ELEVEN, Refusing, STANDING, filled, lose_all, part_of_great, seen, some_losses, torn_rows, twin,
    unkept, with_data,
)
from tests.helpers import GREAT, GREAT_TABLE, Numbers, SHAPE
from tests.listing import put, right_of, rising, shelves

# Of SHAPE: a row that is whole, one that is torn and one that no story leaves.
WHOLE = ((1,), (6,), (2,), (3,), (5,))
TORN = ((1,), (0,), (2,), (3,), (5,))
SPOILT = ((1,), (3,), (0,), (0,), (0,))

COPIES_2 = COPIES[:4] + (2,)


def replaced(array, shelf, cells):
    array.lose(shelf)
    array.replace(shelf, cells)


def due_fill(array):
    """What [38] says of the code, from the mends and the told rows."""
    code = []
    for row in range(array.rows):
        due = right_of(array.shape, told_data(array, row))
        batch = list(mend_row(array, row))
        for shelf in range(shelves(array.shape)):
            if array.state(shelf) == "filling" and array.cell(row, shelf) != due[shelf]:
                batch.append((shelf, row, due[shelf]))
        if batch:
            code.append(tuple(sorted(batch)))
    return tuple(code)


class Filled(Refusing):
    def test_the_example(self):
        array = with_data(BITS, [((1,), (0,))])
        array.lose(3)
        self.same(fill(array), ())
        array.replace(3, ((1,),))
        self.same(fill(array=array), (((3, 0, (0,)),),))
        self.changes_nothing(array, Unlike, 0, trust, array)
        do(array, fill(array))
        self.same(trust(array=array), None)
        self.same(array.state(3), "kept")
        self.same(array.left(0), ((1,), (0,), (1,), (0,)))

    def test_any_cells_right_ones_and_nought(self):
        rows = [((3,), (5,)), ((0,), (0,)), ((6,), (1,))]
        rights = [right_of(SHAPE, data) for data in rows]
        for shelf in range(5):
            right = tuple(row[shelf] for row in rights)
            for cells in (right, ((0,),) * 3, ((4,), (4,), (4,)), right[:2] + ((5,),)):
                array = with_data(SHAPE, rows)
                replaced(array, shelf, cells)
                wrong = [row for row in range(3) if cells[row] != right[row]]
                self.same(fill(array), tuple(((shelf, row, right[row]),) for row in wrong))
                if wrong:
                    self.changes_nothing(array, Unlike, wrong[0], trust, array)
                do(array, fill(array))
                self.same(fill(array), ())
                self.same(array.state(shelf), "filling")
                trust(array)
                self.same(seen(array), seen(with_data(SHAPE, rows)))

    def test_torn_rows_amid_it(self):
        # The mend of row 1 writes to sum 1; shelf 0 and shelf 3 are filled in turn.
        for shelf, due in ((0, (1,)), (3, (3,))):
            array = filled(SHAPE, [WHOLE, TORN, WHOLE])
            replaced(array, shelf, (due, (0,), (0,)))
            batch = tuple(sorted([(1, 1, (6,)), (shelf, 1, due)]))
            self.same(fill(array), (batch, ((shelf, 2, due),)))
            self.same(scrub(array), (((1, 1, (6,)),),))
            do(array, fill(array))
            self.same(looks(array), ("whole",) * 3)
            trust(array)
            self.same([array.left(row) for row in range(3)], [WHOLE] * 3)

    def test_of_all_shapes(self):
        numbers = Numbers(3)
        for shape in STANDING:
            for lost in some_losses(shape, shape[4], 5):
                array, ends = torn_rows(numbers, shape, 4)
                lose_all(array, lost)
                for shelf in lost[:2]:
                    array.replace(shelf, numbers.matrix(4, shape[1], shape[0]))
                told = [told_data(array, row) for row in range(4)]
                before = seen(array)
                code = fill(array)
                self.same(code, due_fill(array))
                self.same(seen(array), before)
                do(array, code)
                self.same(fill(array), ())
                trust(array)
                self.same(unkept(array), lost[2:])
                self.same([told_data(array, row) for row in range(4)], told)
                self.assertTrue(all(data in pair for data, pair in zip(told, ends)))

    def test_several_shelves(self):
        numbers = Numbers(5)
        for shape in (COPIES_2, part_of_great(2, 3, 4), GREAT):
            rows = [numbers.matrix(shape[2], shape[1], shape[0]) for _ in range(3)]
            array = with_data(shape, rows)
            for shelf in range(shape[4]):
                replaced(array, 2 * shelf, numbers.matrix(3, shape[1], shape[0]))
            self.same(fill(array), due_fill(array))
            self.assertEqual(max(len(batch) for batch in fill(array)), shape[4])
            do(array, fill(array))
            trust(array)
            self.same(seen(array), seen(with_data(shape, rows)))

    def test_one_filled_and_one_lost(self):
        numbers = Numbers(7)
        shape = part_of_great(1, 2, 4)
        array, _ = torn_rows(numbers, shape, 3)
        array.lose(5)
        replaced(array, 1, ((1,), (2,), (3,)))
        do(array, fill(array))
        trust(array)
        self.same([array.state(shelf) for shelf in range(6)], ["kept"] * 5 + ["lost"])
        array.lose(0)
        self.same(looks(array), ("whole",) * 3)

    def test_the_new_shelf_is_not_written(self):
        array = with_data(part_of_great(1, 2, 3), [((3,), (5,))])
        array.new(tuple(row[2] for row in GREAT_TABLE[:3]), ((7,),))
        replaced(array, 4, ((0,),))
        self.same(fill(array), (((4, 0, (5,)),),))
        do(array, fill(array))
        trust(array)
        self.same([array.state(shelf) for shelf in range(6)], ["kept"] * 5 + ["new"])
        self.same(array.cell(0, 5), (7,))

    def test_one_and_64_rows(self):
        for rows in (1, 64):
            array = filled(SHAPE, [WHOLE] * rows)
            replaced(array, 2, ((0,),) * rows)
            self.same(fill(array), tuple(((2, row, (2,)),) for row in range(rows)))
            do(array, fill(array))
            trust(array)
            self.same(array.left(rows - 1), WHOLE)


class Refusals(Refusing):
    def test_the_first_spoilt_row(self):
        for rows in (1, 3, 64):
            for at in {0, rows // 2, rows - 1}:
                array = filled(SHAPE, [SPOILT if row == at else TORN for row in range(rows)])
                self.changes_nothing(array, Spoilt, at, fill, array)
        array = filled(COPIES_2[:4] + (1,), [((0,), (3,), (0,), (3,)), ((0,), (1,), (2,), (3,)), ((4,), (1,), (2,), (3,))])
        replaced(array, 0, ((6,),) * 3)
        self.changes_nothing(array, Spoilt, 1, fill, array)

    def test_torn_and_spoilt_rows_are_not_trusted(self):
        for wrong in (TORN, SPOILT):
            for at in (0, 1, 2):
                array = filled(SHAPE, [wrong if row >= at else WHOLE for row in range(3)])
                self.changes_nothing(array, Torn, at, trust, array)
                replaced(array, 0, ((1,),) * 3)
                self.changes_nothing(array, Torn, at, trust, array)

    def test_torn_ahead_of_unlike_also_for_a_later_row(self):
        for wrong in (TORN, SPOILT):
            array = filled(SHAPE, [WHOLE, WHOLE, wrong])
            replaced(array, 3, ((0,), (0,), (3,)))
            self.changes_nothing(array, Torn, 2, trust, array)

    def test_the_first_row_that_is_unlike_on_some_filling_shelf(self):
        shape = part_of_great(1, 2, 4)
        rows = [((1,), (2,)), ((3,), (4,)), ((5,), (6,))]
        rights = [right_of(shape, data) for data in rows]
        for at in range(3):
            for first, second in ((0, 5), (5, 0), (2, 4)):
                array = with_data(shape, rows)
                for shelf, wrong in ((first, at), (second, 2)):
                    cells = tuple(right[shelf] for right in rights)
                    replaced(array, shelf, put(cells, wrong, ((cells[wrong][0] + 1) % 65521,)))
                self.changes_nothing(array, Unlike, at, trust, array)

    def test_without_a_filling_shelf_it_only_looks(self):
        array = filled(SHAPE, [WHOLE, WHOLE])
        before = seen(array)
        trust(array)
        self.same(seen(array), before)
        array.lose(3)
        before = seen(array)
        trust(array)
        self.same(seen(array), before)
        self.changes_nothing(filled(SHAPE, [WHOLE, TORN]), Torn, 1, trust, filled(SHAPE, [WHOLE, TORN]))


class Deeds(Refusing):
    def test_a_deed_done_on_a_filling_shelf(self):
        """A deed changes a filling shelf as the others, whatever lies there."""
        array = filled(SHAPE, [WHOLE, WHOLE])
        replaced(array, 3, ((0,), (3,)))
        do(array, deed(array, 0, 0, (4,)))
        do(array, deed(array, 1, 1, (6,)))
        self.same([array.cell(row, 3) for row in (0, 1)], [(4,), (3,)])
        self.same([told_data(array, row) for row in (0, 1)], [((4,), (5,)), ((3,), (6,))])
        trust(array)
        self.same([told_data(array, row) for row in (0, 1)], [((4,), (5,)), ((3,), (6,))])

    def test_a_deed_that_does_not_touch_it(self):
        array = filled(SHAPE, [WHOLE])
        replaced(array, 3, ((0,),))
        do(array, deed(array, 0, 1, (6,)))
        self.changes_nothing(array, Unlike, 0, trust, array)
        self.same(fill(array), (((3, 0, (3,)),),))

    def test_a_torn_deed_while_a_shelf_is_filling(self):
        array = filled(SHAPE, [WHOLE])
        replaced(array, 0, ((5,),))
        stopped(array, deed(array, 0, 0, (4,)), 0, (0, 3))
        self.changes_nothing(array, Torn, 0, trust, array)
        self.same(array.cell(0, 0), (2,))
        do(array, fill(array))
        trust(array)
        self.assertIn(told_data(array, 0), (((3,), (5,)), ((4,), (5,))))


class Stops(Refusing):
    def hold_stop(self, array, shelf, code, many, came):
        """The fill is stopped, the shelf lost again, replaced, filled and trusted: the same is told throughout."""
        told = [told_data(array, row) for row in range(array.rows)]
        torn = twin(array)
        stopped(torn, code, many, came)
        self.same([told_data(torn, row) for row in range(array.rows)], told)
        again = twin(torn)
        do(again, fill(again))
        trust(again)
        self.same(unkept(again), tuple(other for other in unkept(array) if array.state(other) == "lost"))
        self.same([told_data(again, row) for row in range(array.rows)], told)
        cells = tuple(torn.cell(row, shelf) for row in range(array.rows))
        replaced(torn, shelf, cells[::-1])
        self.same([told_data(torn, row) for row in range(array.rows)], told)
        do(torn, fill(torn))
        trust(torn)
        self.same(seen(torn), seen(again))

    def test_stopped_anywhere(self):
        numbers = Numbers(11)
        for shape in (SHAPE, COPIES_2, ELEVEN):
            for shelf in range(shelves(shape)):
                array, _ = torn_rows(numbers, shape, 3)
                replaced(array, shelf, numbers.matrix(3, 1, shape[0]))
                code = fill(array)
                for many in range(len(code) + 1):
                    torn = code[many] if many < len(code) else ()
                    for came in rising(range(len(torn))):
                        self.hold_stop(array, shelf, code, many, came)

    def test_stopped_again_and_again_with_several_shelves(self):
        numbers = Numbers(13)
        shape = part_of_great(1, 4, 5)
        for _ in range(6):
            array, ends = torn_rows(numbers, shape, 3)
            for shelf in (0, 3, 8):
                replaced(array, shelf, numbers.matrix(3, 1, 65521))
            told = [told_data(array, row) for row in range(3)]
            for _ in range(4):
                code = fill(array)
                many = numbers.below(len(code) + 1)
                torn = code[many] if many < len(code) else ()
                stopped(array, code, many, tuple(i for i in range(len(torn)) if numbers.below(2)))
                self.same([told_data(array, row) for row in range(3)], told)
                replaced(array, (0, 3, 8)[numbers.below(3)], numbers.matrix(3, 1, 65521))
            do(array, fill(array))
            trust(array)
            self.same(unkept(array), ())
            self.assertTrue(all(data in pair for data, pair in zip(told, ends)))
            self.same([told_data(array, row) for row in range(3)], told)
            self.same([array.left(row) for row in range(3)], [right_of(shape, data) for data in told])

    def test_of_the_greatest_array(self):
        numbers = Numbers(17)
        array, ends = torn_rows(numbers, GREAT, 64)
        for shelf in (0, 5, 10):
            replaced(array, shelf, numbers.matrix(64, 32, 65521))
        do(array, fill(array))
        trust(array)
        self.same(unkept(array), ())
        for row in range(64):
            self.assertIn(told_data(array, row), ends[row])

    def test_a_new_array_is_trusted(self):
        for shape in STANDING:
            array = Array(shape, 2)
            self.same(fill(array), ())
            trust(array)
            self.same(seen(array), seen(Array(shape, 2)))


if __name__ == "__main__":
    unittest.main()
