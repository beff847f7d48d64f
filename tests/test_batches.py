"""Writes and code [31], stops [32] and deeds [33]."""

import unittest

from sumstand.batches import deed, do, made_code, stopped
from sumstand.errors import BadCell, BadCode, BadRow, BadShelf, BadStop, Spoilt
from sumstand.mending import mend_row
from sumstand.shelves import Array, is_whole, told_data
from tests.arrays import BITS, COPIES, ELEVEN, STANDING, copied, filled, part_of_great, seen, some_losses, with_data
from tests.helpers import Case, GREAT, GREAT_TABLE, NO_NUMBERS, NO_TUPLES, Numbers, SHAPE, nested
from tests.listing import behind_loss, put, right_of, rising, shelves

WRITE = (0, 1, (5,))
CODE = (((0, 0, (2,)), (3, 0, (4,))), ((1, 1, (6,)),), ((0, 0, (1,)), (1, 0, (1,)), (4, 0, (1,))))

NO_CELLS = NO_TUPLES + ((), (0, 0), (7,), (-1,), (10**999,)) + tuple((part,) for part in NO_NUMBERS)

# What is no write to an array of SHAPE with two rows.
NO_WRITES = (
    list(NO_TUPLES)
    + [(), (0, 1), (0, 1, (5,), 0), (0, 1, 5), nested(50), (0,) * 9999, (WRITE,), (WRITE,) * 3]
    + [(shelf, 1, (5,)) for shelf in NO_NUMBERS + (-1, 5, 10**999)]
    + [(0, row, (5,)) for row in NO_NUMBERS + (-1, 2, 10**999)]
    + [(0, 1, cell) for cell in NO_CELLS]
)


def some_code(numbers, array, many):
    """Code that looks as if by chance, to any shelves of an array."""
    p, wide, _, _, _ = array.shape
    code = []
    for _ in range(many):
        row = numbers.below(array.rows)
        chosen = [shelf for shelf in range(shelves(array.shape)) if numbers.below(2)] or [0]
        code.append(tuple((shelf, row, numbers.row(wide, p)) for shelf in chosen))
    return tuple(code)


def some_array(numbers, shape, rows, lost, filling):
    """An array with rows of any cells, some shelves lost and some filling."""
    array = filled(shape, [numbers.matrix(shelves(shape), shape[1], shape[0]) for _ in range(rows)])
    for shelf in lost + filling:
        array.lose(shelf)
    for shelf in filling:
        array.replace(shelf, numbers.matrix(rows, shape[1], shape[0]))
    return array


class MadeCode(Case):
    def test_code_is_returned(self):
        array = Array(SHAPE, 2)
        before = seen(array)
        for code in ((), CODE, CODE[:1], ((WRITE,),) * 1000, (((4, 1, (6,)),), ((0, 0, (0,)),))):
            self.same(made_code(array, code), code)
        self.same(seen(array), before)

    def test_lost_filling_and_new_shelves_may_be_written(self):
        array = Array((7, 1, 2, ((1, 1), (1, 2), (1, 4)), 1), 1)
        array.lose(4)
        self.same(made_code(array, (((4, 0, (1,)),),)), (((4, 0, (1,)),),))
        array.replace(4, ((0,),))
        self.same(made_code(array, (((4, 0, (1,)),),)), (((4, 0, (1,)),),))
        bare = Array((7, 1, 1, (), 0), 1)
        self.refused(BadCode, 0, made_code, bare, (((1, 0, (1,)),),))
        bare.new((), ((0,),))
        self.same(made_code(bare, (((0, 0, (1,)), (1, 0, (1,))),)), (((0, 0, (1,)), (1, 0, (1,))),))
        self.refused(BadCode, 0, made_code, bare, (((2, 0, (1,)),),))

    def hold_wrong(self, call, *others):
        """The code is asked by call, whatever else is wrong, and nothing is written."""
        array = Array(SHAPE, 2)
        before = seen(array)
        for code in NO_TUPLES:
            self.refused(BadCode, -1, call, array, code, *others)
        for write in NO_WRITES:
            with self.subTest(call=call, write=write):
                self.refused(BadCode, 0, call, array, ((write,),), *others)
                self.refused(BadCode, 1, call, array, (CODE[0], (write,), None), *others)
                self.refused(BadCode, 2, call, array, CODE[:2] + ((WRITE, write),), *others)
        one, two = (0, 0, (1,)), (1, 0, (1,))
        wrong = ((), (two, one), (one, one), (one, two, one), (one, (1, 1, (1,))), (one, two, (2, 1, (1,))))
        for batch in NO_TUPLES + wrong + (WRITE, nested(50), (0,) * 9999, one, two):
            with self.subTest(call=call, batch=batch):
                self.refused(BadCode, 0, call, array, (batch,), *others)
                self.refused(BadCode, 3, call, array, CODE + (batch, batch), *others)
        self.same(seen(array), before)

    def test_wrong_code(self):
        self.hold_wrong(made_code)
        self.hold_wrong(do)
        self.hold_wrong(stopped, None, None)
        self.hold_wrong(stopped, 0, ())


class Doing(Case):
    def test_by_hand(self):
        array = Array(SHAPE, 2)
        self.same(do(array, CODE), None)
        self.same([array.cell(0, shelf) for shelf in range(5)], [(1,), (1,), (0,), (4,), (1,)])
        self.same([array.cell(1, shelf) for shelf in range(5)], [(0,), (6,), (0,), (0,), (0,)])

    def test_nothing_of_no_code(self):
        array = with_data(SHAPE, [((3,), (5,))])
        before = seen(array)
        do(array, ())
        stopped(array, (), 0, ())
        self.same(seen(array), before)

    def test_a_write_to_a_lost_shelf_falls_away(self):
        array = with_data(SHAPE, [((3,), (5,))])
        array.lose(3)
        do(array, (((2, 0, (6,)), (3, 0, (1,)), (4, 0, (2,))),))
        self.same([array.cell(0, shelf) for shelf in range(5)], [(1,), (6,), (6,), None, (2,)])
        self.same(array.state(3), "lost")
        array.replace(3, ((5,),))
        self.same(array.cell(0, 3), (5,))

    def test_a_filling_and_the_new_shelf_are_written(self):
        array = Array(part_of_great(1, 2, 3), 2)
        array.lose(0)
        array.replace(0, ((1,), (2,)))
        array.new(GREAT_TABLE[0][:3], ((3,), (4,)))
        do(array, (((0, 1, (7,)), (1, 1, (8,)), (5, 1, (9,))),))
        self.same([array.cell(1, shelf) for shelf in range(6)], [(7,), (8,), (0,), (0,), (0,), (9,)])
        self.same([array.cell(0, shelf) for shelf in (0, 5)], [(1,), (3,)])
        self.same((array.state(0), array.state(5)), ("filling", "new"))

    def test_beside_a_plain_model(self):
        numbers = Numbers(3)
        for shape in STANDING:
            lost = tuple(range(shape[4] // 2))
            array = some_array(numbers, shape, 3, lost, tuple(range(shape[4] // 2, shape[4])))
            model = [list(column) for column in seen(array)[3]]
            code = some_code(numbers, array, 12)
            do(array, code)
            for batch in code:
                for shelf, row, cell in batch:
                    if shelf not in lost:
                        model[shelf][row] = cell
            self.same(seen(array)[3], tuple(tuple(column) for column in model))


class Stops(Case):
    def test_all_batches_and_all_sets_of_writes(self):
        numbers = Numbers(5)
        for shape in (SHAPE, COPIES, BITS, ELEVEN):
            array = some_array(numbers, shape, 2, (1,), ())
            code = some_code(numbers, array, 4)
            for many in range(5):
                torn = code[many] if many < 4 else ()
                for came in rising(range(len(torn))):
                    one, two = copied(array), copied(array)
                    self.same(stopped(one, code, many, came), None)
                    do(two, code[:many])
                    do(two, tuple((torn[index],) for index in came))
                    self.same(seen(one), seen(two))

    def test_indices_of_writes_to_lost_shelves(self):
        array = with_data(SHAPE, [((3,), (5,))])
        array.lose(3)
        stopped(array, (((2, 0, (6,)), (3, 0, (1,)), (4, 0, (2,))),), 0, (1, 2))
        self.same([array.cell(0, shelf) for shelf in range(5)], [(1,), (6,), (2,), None, (2,)])

    def test_arguments_by_name(self):
        array = Array(SHAPE, 2)
        stopped(came=(1,), many=0, code=CODE, array=array)
        do(code=CODE[1:2], array=array)
        self.same(made_code(code=CODE, array=array), CODE)
        self.same([array.cell(0, shelf) for shelf in range(5)], [(0,), (0,), (0,), (4,), (0,)])
        self.same(array.cell(1, 1), (6,))
        self.same(deed(cell=(1,), x=1, row=1, array=Array(COPIES[:2] + (2, ((1, 0), (0, 1)), 0), 2)), (
            ((1, 1, (1,)), (3, 1, (1,))),
        ))

    def test_wrong_stops(self):
        array = Array(SHAPE, 2)
        before = seen(array)
        for many in NO_NUMBERS + (-1, 4, 10**999):
            with self.subTest(many=many):
                self.refused(BadStop, 0, stopped, array, CODE, many, ())
                self.refused(BadStop, 0, stopped, array, CODE, many, None)
        for came in NO_TUPLES + ((-1,), (3,), (0, 0), (1, 0), (0, 3), (0, 1, 2, 3), (True,), (0, True), ((0,),)):
            with self.subTest(came=came):
                self.refused(BadStop, 1, stopped, array, CODE, 2, came)
                self.refused(BadStop, 1, stopped, array, CODE, 3, came)
        self.refused(BadStop, 1, stopped, array, CODE, 1, (1,))
        self.refused(BadStop, 1, stopped, array, CODE, 3, (0,))
        self.refused(BadStop, 1, stopped, array, (), 0, (0,))
        self.refused(BadStop, 0, stopped, array, (), 1, ())
        self.same(seen(array), before)


class Deeds(Case):
    def test_the_example(self):
        array = with_data(SHAPE, [((3,), (5,))])
        before = seen(array)
        self.same(deed(array, 0, 0, (4,)), (((0, 0, (2,)), (1, 0, (0,)), (2, 0, (3,)), (3, 0, (4,))),))
        self.same(deed(array, 0, 0, (3,)), ())
        self.same(seen(array), before)
        array.lose(1)
        self.same(deed(array, 0, 0, (4,)), (((0, 0, (2,)), (2, 0, (3,)), (3, 0, (4,))),))

    def test_of_whole_rows_with_every_loss(self):
        numbers = Numbers(7)
        for shape in STANDING:
            p, wide, n, _, e = shape
            for lost in some_losses(shape, e, 10):
                data = numbers.matrix(n, wide, p)
                array = with_data(shape, [data])
                for shelf in lost:
                    array.lose(shelf)
                x, cell = numbers.below(n), numbers.row(wide, p)
                new = put(data, x, cell)
                ahead, behind = right_of(shape, data), right_of(shape, new)
                due = tuple(
                    (shelf, 0, behind[shelf]) for shelf in range(len(ahead))
                    if ahead[shelf] != behind[shelf] and shelf not in lost
                )
                code = deed(array, 0, x, cell)
                self.same(code, (due,) if new != data else ())
                do(array, code)
                self.same(told_data(array, 0), new)
                self.same(array.left(0), behind_loss(behind, lost))

    def test_of_torn_rows(self):
        array = filled(SHAPE, [right_of(SHAPE, ((0,), (0,))), ((1,), (0,), (2,), (3,), (5,))])
        before = seen(array)
        mend = mend_row(array, 1)
        self.same(mend, ((1, 1, (6,)),))
        self.same(deed(array, 1, 0, (4,)), (mend, ((0, 1, (2,)), (1, 1, (0,)), (2, 1, (3,)), (3, 1, (4,)))))
        # The cell that is told is written by the mend alone, whatever lies there.
        self.same(deed(array, 1, 0, (3,)), (mend,))
        self.same(deed(array, 1, 1, (5,)), (mend,))
        self.same(seen(array), before)

    def test_what_lies_there_does_not_matter(self):
        # Of the torn row 0, 3, 0, 3 the data 0 are told, so data 0 is written on all shelves for 3.
        array = filled(COPIES, [((0,), (3,), (0,), (3,))])
        mend = ((1, 0, (0,)), (3, 0, (0,)))
        self.same(deed(array, 0, 0, (3,)), (mend, tuple((shelf, 0, (3,)) for shelf in range(4))))
        self.same(deed(array, 0, 0, (0,)), (mend,))

    def test_filling_shelves_are_written_whatever_lies_there(self):
        array = with_data(SHAPE, [((3,), (5,))])
        array.lose(0)
        array.replace(0, ((2,),))
        self.same(deed(array, 0, 0, (4,)), (((0, 0, (2,)), (1, 0, (0,)), (2, 0, (3,)), (3, 0, (4,))),))
        self.same(deed(array, 0, 0, (3,)), ())

    def test_a_filling_shelf_is_not_mended(self):
        array = filled(SHAPE, [((6,), (0,), (2,), (3,), (5,))])
        array.lose(0)
        array.replace(0, ((0,),))
        self.same(deed(array, 0, 0, (3,)), (((1, 0, (6,)),),))
        self.same(deed(array, 0, 1, (6,))[0], ((1, 0, (6,)),))
        self.same(deed(array, 0, 1, (6,))[1], ((0, 0, (2,)), (1, 0, (1,)), (2, 0, (6,)), (4, 0, (6,))))

    def test_the_new_shelf_is_not_written(self):
        array = with_data(part_of_great(1, 2, 3), [((3,), (5,))])
        array.new(tuple(row[2] for row in GREAT_TABLE[:3]), ((9,),))
        code = deed(array, 0, 1, (6,))
        self.same([shelf for shelf, _, _ in code[0]], [0, 1, 2, 4])
        do(array, code)
        self.same(told_data(array, 0), ((3,), (6,)))
        self.same(array.cell(0, 5), (9,))

    def test_stopped_anywhere_one_of_the_two_is_told(self):
        numbers = Numbers(11)
        for shape in (SHAPE, BITS, ELEVEN, COPIES[:4] + (2,)):
            for lost in some_losses(shape, shape[4], 20):
                data, x = numbers.matrix(shape[2], shape[1], shape[0]), numbers.below(shape[2])
                cell = ((data[x][0] + 1) % shape[0],)
                array = with_data(shape, [data])
                code = deed(array, 0, x, cell)
                for came in rising(range(len(code[0]))):
                    other = copied(array)
                    stopped(other, code, 0, came)
                    for shelf in lost:
                        other.lose(shelf)
                    self.assertIn(told_data(other, 0), (data, put(data, x, cell)))

    def test_of_the_greatest_shape(self):
        numbers = Numbers(13)
        data = [numbers.matrix(6, 32, 65521) for _ in range(64)]
        array = with_data(GREAT, data)
        for shelf in (1, 5, 9):
            array.lose(shelf)
        cell = numbers.row(32, 65521)
        code = deed(array, 63, 4, cell)
        self.same([shelf for shelf, _, _ in code[0]], [0, 2, 3, 4])
        do(array, code)
        self.same(told_data(array, 63), put(data[63], 4, cell))
        self.same(told_data(array, 62), data[62])
        self.same(is_whole(array, 63), True)

    def test_the_order_of_the_refusals(self):
        array = filled(SHAPE, [right_of(SHAPE, ((3,), (5,))), ((1,), (3,), (0,), (0,), (0,))])
        before = seen(array)
        for row in NO_NUMBERS + (-1, 2, 10**999):
            self.refused(BadRow, row, deed, array, row, 0, (4,))
            self.refused(BadRow, row, deed, array, row, None, None)
        for x in NO_NUMBERS + (-1, 2, 3, 10**999):
            self.refused(BadShelf, x, deed, array, 1, x, (4,))
            self.refused(BadShelf, x, deed, array, 0, x, None)
        for cell in NO_CELLS:
            self.refused(BadCell, 0, deed, array, 0, 1, cell)
            self.refused(BadCell, 0, deed, array, 1, 1, cell)
        self.refused(Spoilt, 1, deed, array, 1, 0, (4,))
        self.refused(Spoilt, 1, deed, array, 1, 1, (0,))
        self.same(seen(array), before)


if __name__ == "__main__":
    unittest.main()
