"""Arrays [27], losing and replacing [28], new shelves and sums [29], and what arrays tell [30]."""

import unittest

from sumstand.batches import do
from sumstand.errors import (
    BadCells, BadColumn, BadRow, BadShape, BadShelf, New, NotLost, NotStanding, Spoilt, TooMany, TooManyLost,
)
from sumstand.shelves import Array, is_whole, told_data
from tests.arrays import (
    BITS, COPIES, ELEVEN, Refusing, STANDING, filled, part_of_great, seen, some_losses, with_data,
)
from tests.helpers import Case, GREAT, GREAT_TABLE, NO_NUMBERS, NO_TUPLES, Numbers, SHAPE, nested
from tests.listing import behind_loss, put, right_of, shelves

NO_ROW_COUNTS = NO_NUMBERS + (-1, 0, 65, 10**999)
FALLEN = (7, 1, 2, ((1, 1), (1, 2), (1, 3)), 1)


class MadeArrays(Refusing):
    def test_all_cells_are_nought_and_all_shelves_kept(self):
        for shape in STANDING:
            for rows in (1, 2, 64):
                array = Array(shape, rows)
                nought = (0,) * shape[1]
                count = shelves(shape)
                self.same(array.shape, shape)
                self.same(array.rows, rows)
                self.same(seen(array), (
                    shape, rows, ("kept",) * count, ((nought,) * rows,) * count, ((nought,) * count,) * rows,
                ))

    def test_arguments_by_name(self):
        array = Array(rows=3, shape=SHAPE)
        self.same((array.shape, array.rows), (SHAPE, 3))
        array.lose(shelf=4)
        array.replace(cells=((1,),) * 3, shelf=4)
        self.same(array.state(shelf=4), "filling")
        self.same(array.cell(shelf=4, row=2), (1,))
        self.same(array.left(row=0), ((0,), (0,), (0,), (0,), None))
        big = Array(part_of_great(1, 2, 3), 1)
        big.new(cells=((5,),), column=GREAT_TABLE[0][2:5])
        big.lose(5)
        big.sum_more(cells=((5,),), numbers=GREAT_TABLE[3][:2])
        self.same(told_data(row=0, array=big), ((0,), (0,)))
        self.same(is_whole(row=0, array=big), True)

    def test_the_shape_then_the_rows_then_whether_it_stands(self):
        self.wants_shape(Array, 1)
        self.wants_shape(Array, None)
        for rows in NO_ROW_COUNTS:
            with self.subTest(rows=rows):
                self.refused(BadRow, rows, Array, SHAPE, rows)
                self.refused(BadRow, rows, Array, FALLEN, rows)
                self.refused(BadShape, 4, Array, SHAPE[:4] + (None,), rows)
        self.refused(NotStanding, 0, Array, FALLEN, 1)
        self.refused(NotStanding, 0, Array, (7, 1, 1, (), 1), 64)
        self.refused(NotStanding, 0, Array, GREAT[:3] + (GREAT_TABLE[:4], 3), 1)

    def test_two_arrays_have_nothing_in_common(self):
        one, two = Array(SHAPE, 2), Array(SHAPE, 2)
        do(one, (((0, 1, (5,)),),))
        one.lose(1)
        self.same(seen(two), seen(Array(SHAPE, 2)))
        self.same(one.cell(0, 0), (0,))

    def test_its_methods_are_defined_in_it(self):
        for name in ("state", "cell", "left", "lose", "replace", "new", "sum_more"):
            self.assertIn(name, vars(Array))


class Looks(Refusing):
    def test_states_and_cells(self):
        array = with_data(SHAPE, [((3,), (5,)), ((1,), (1,))])
        self.same([array.state(shelf) for shelf in range(5)], ["kept"] * 5)
        self.same([array.cell(0, shelf) for shelf in range(5)], [(1,), (6,), (2,), (3,), (5,)])
        array.lose(1)
        self.same(array.state(1), "lost")
        self.same(array.cell(0, 1), None)
        self.same(array.left(0), ((1,), None, (2,), (3,), (5,)))
        array.replace(1, ((4,), (0,)))
        self.same(array.state(1), "filling")
        self.same(array.cell(0, 1), (4,))
        self.same(array.left(0), ((1,), None, (2,), (3,), (5,)))

    def test_wrong_rows_and_shelves(self):
        array = Array(SHAPE, 2)
        for row in NO_NUMBERS + (-1, 2, 64, 10**999):
            with self.subTest(row=row):
                self.changes_nothing(array, BadRow, row, array.left, row)
                self.changes_nothing(array, BadRow, row, array.cell, row, 0)
                self.changes_nothing(array, BadRow, row, array.cell, row, None)
                self.refused(BadRow, row, told_data, array, row)
                self.refused(BadRow, row, is_whole, array, row)
        for shelf in NO_NUMBERS + (-1, 5, 6, 10**999):
            with self.subTest(shelf=shelf):
                self.changes_nothing(array, BadShelf, shelf, array.state, shelf)
                self.changes_nothing(array, BadShelf, shelf, array.cell, 0, shelf)
                self.changes_nothing(array, BadShelf, shelf, array.lose, shelf)
                self.changes_nothing(array, BadShelf, shelf, array.replace, shelf, ((0,), (0,)))
                self.changes_nothing(array, BadShelf, shelf, array.replace, shelf, None)

    def test_the_number_of_the_new_shelf_is_one_while_it_is_there(self):
        array = Array((7, 1, 1, (), 0), 1)
        self.refused(BadShelf, 1, array.state, 1)
        array.new((), ((3,),))
        self.same(array.state(1), "new")
        self.same(array.cell(0, 1), (3,))
        self.same(array.left(0), ((0,),))
        self.refused(BadShelf, 2, array.state, 2)
        self.refused(BadShelf, 2, array.cell, 0, 2)
        array.lose(1)
        self.refused(BadShelf, 1, array.state, 1)
        self.refused(BadShelf, 1, array.cell, 0, 1)
        self.refused(BadShelf, 1, array.lose, 1)


class Losing(Refusing):
    def test_just_e_shelves_and_one_more(self):
        for shape in STANDING:
            for lost in some_losses(shape, shape[4], 12):
                if len(lost) < shape[4] or len(lost) == shelves(shape):
                    continue
                array = Array(shape, 2)
                for shelf in lost:
                    array.lose(shelf)
                left = behind_loss(((0,) * shape[1],) * shelves(shape), lost)
                self.same(array.left(1), left)
                other = min(set(range(shelves(shape))) - set(lost))
                self.changes_nothing(array, TooManyLost, shape[4] + 1, array.lose, other)

    def test_a_filling_shelf_is_counted_already(self):
        array = Array(part_of_great(2, 2, 4), 1)
        array.lose(0)
        array.replace(0, ((1, 2),))
        array.lose(5)
        self.changes_nothing(array, TooManyLost, 3, array.lose, 1)
        array.lose(0)
        self.same((array.state(0), array.cell(0, 0)), ("lost", None))
        self.changes_nothing(array, TooManyLost, 3, array.lose, 1)

    def test_a_lost_one_stays_lost(self):
        array = Array(SHAPE, 2)
        array.lose(3)
        before = seen(array)
        array.lose(3)
        self.same(seen(array), before)
        self.same(array.state(3), "lost")

    def test_a_new_shelf_is_not_there_any_more(self):
        array = Array(ELEVEN[:2] + (2, ((1, 1), (1, 5), (1, 9)), 1), 2)
        before = seen(array)
        array.new((1, 2, 7), ((3,), (4,)))
        array.lose(5)
        self.same(seen(array), before)
        # It can go however many are not kept, and another one may come.
        array.new((1, 2, 7), ((3,), (4,)))
        array.lose(0)
        array.lose(5)
        array.new((1, 2, 7), ((5,), (6,)))
        self.same(array.cell(1, 5), (6,))
        self.same(array.state(0), "lost")

    def test_what_is_lost_does_not_come_back(self):
        array = with_data(SHAPE, [((3,), (5,))])
        array.lose(3)
        array.replace(3, ((0,),))
        self.same(array.cell(0, 3), (0,))
        array.lose(3)
        self.same(array.cell(0, 3), None)

    def test_with_e_0_no_shelf_can_be_lost(self):
        for shape in STANDING[5:9]:
            array = Array(shape, 1)
            for shelf in range(shelves(shape)):
                self.changes_nothing(array, TooManyLost, 1, array.lose, shelf)


class Replacing(Refusing):
    def test_with_any_cells(self):
        array = with_data(SHAPE, [((3,), (5,)), ((1,), (2,)), ((0,), (6,))])
        array.lose(0)
        array.replace(0, ((6,), (0,), (3,)))
        self.same(array.state(0), "filling")
        self.same([array.cell(row, 0) for row in range(3)], [(6,), (0,), (3,)])
        self.same(array.left(0), (None, (6,), (2,), (3,), (5,)))

    def test_what_is_not_lost(self):
        array = Array(part_of_great(1, 2, 3), 1)
        array.new(GREAT_TABLE[0][:3], ((0,),))
        array.lose(0)
        array.replace(0, ((0,),))
        for shelf in (0, 1, 4, 5):
            self.changes_nothing(array, NotLost, shelf, array.replace, shelf, ((0,),))
            self.changes_nothing(array, NotLost, shelf, array.replace, shelf, None)

    def test_wrong_cells(self):
        array = Array(SHAPE, 3)
        array.lose(2)
        for cells in NO_TUPLES + ((), ((0,),) * 2, ((0,),) * 4, nested(50), ((0,),) * 9999):
            with self.subTest(cells=cells):
                self.changes_nothing(array, BadCells, -1, array.replace, 2, cells)
        for cell in NO_TUPLES + ((), (0, 0), (7,), (-1,)) + tuple((part,) for part in NO_NUMBERS):
            for index in range(3):
                with self.subTest(cell=cell, index=index):
                    cells = ((6,),) * index + (cell,) * (3 - index)
                    self.changes_nothing(array, BadCells, index, array.replace, 2, cells)
        array.replace(2, ((6,), (0,), (1,)))
        self.same(array.state(2), "filling")


class NewShelves(Refusing):
    SHAPE_3 = part_of_great(2, 3, 3)
    COLUMN = tuple(row[3] for row in GREAT_TABLE[:3])

    def test_it_stands_behind_the_others_and_in_no_row(self):
        array = with_data(self.SHAPE_3, [((1, 2), (3, 4), (5, 6)), ((0, 0), (9, 9), (8, 8))])
        before = seen(array)
        array.new(self.COLUMN, ((7, 7), (0, 65520)))
        self.same(array.state(6), "new")
        self.same([array.cell(row, 6) for row in (0, 1)], [(7, 7), (0, 65520)])
        self.same(array.shape, self.SHAPE_3)
        self.same(array.left(0), before[4][0])
        self.same(told_data(array, 1), ((0, 0), (9, 9), (8, 8)))
        self.same(seen(array)[2], before[2] + ("new",))

    def test_wrong_columns(self):
        array = Array(self.SHAPE_3, 1)
        wrong = NO_TUPLES + ((), self.COLUMN[:2], self.COLUMN + (1,), (1, 2, 65521), (-1, 2, 3), nested(50))
        wrong += tuple((1, part, 2) for part in NO_NUMBERS)
        for column in wrong:
            with self.subTest(column=column):
                self.changes_nothing(array, BadColumn, -1, array.new, column, ((0, 0),))
                self.changes_nothing(array, BadColumn, -1, array.new, column, None)

    def test_the_order_of_the_refusals(self):
        full = Array(GREAT, 1)
        self.changes_nothing(full, TooMany, 7, full.new, (1, 2, 3, 4, 5), None)
        self.changes_nothing(full, BadColumn, -1, full.new, (1, 2, 3, 4), None)
        array = Array(self.SHAPE_3, 1)
        self.changes_nothing(array, NotStanding, 0, array.new, (0, 0, 0), None)
        self.changes_nothing(array, NotStanding, 0, array.new, tuple(row[0] for row in GREAT_TABLE[:3]), ((0, 0),))
        self.changes_nothing(array, BadCells, -1, array.new, self.COLUMN, None)
        self.changes_nothing(array, BadCells, -1, array.new, self.COLUMN, ((0, 0),) * 2)
        self.changes_nothing(array, BadCells, 0, array.new, self.COLUMN, ((0,),))
        array.new(self.COLUMN, ((0, 0),))
        self.changes_nothing(array, New, 0, array.new, self.COLUMN, ((0, 0),))
        self.changes_nothing(array, New, 0, array.new, (0, 0, 0), None)
        self.changes_nothing(array, BadColumn, -1, array.new, (0, 0), None)

    def test_up_to_six_data_shelves(self):
        array = Array((7, 1, 5, (), 0), 64)
        array.new((), ((6,),) * 64)
        self.same(array.state(5), "new")
        self.changes_nothing(array, New, 0, array.new, (), ((6,),) * 64)
        six = Array((7, 1, 6, (), 0), 64)
        self.changes_nothing(six, TooMany, 7, six.new, (), ((6,),) * 64)


class OneSumMore(Refusing):
    def test_it_is_filling_and_the_data_shelves_have_other_numbers(self):
        shape = part_of_great(1, 2, 3)
        array = with_data(shape, [((5,), (6,)), ((7,), (8,))])
        array.lose(4)
        before = seen(array)
        array.sum_more(GREAT_TABLE[3][:2], ((1,), (2,)))
        self.same(array.shape, part_of_great(1, 2, 4))
        self.same(seen(array)[2], ("kept", "kept", "kept", "filling", "kept", "lost"))
        self.same(seen(array)[3], before[3][:3] + (((1,), (2,)),) + before[3][3:])
        self.same(array.left(1), before[4][1][:3] + (None,) + before[4][1][3:])
        self.same(told_data(array, 0), ((5,), (6,)))
        # One more may be lost now, but for the new sum, which is filling.
        self.changes_nothing(array, TooManyLost, 3, array.lose, 0)

    def test_the_first_sum(self):
        array = with_data((7, 2, 1, (), 0), [((1, 2),)])
        array.sum_more((3,), ((0, 0),))
        self.same(array.shape, (7, 2, 1, ((3,),), 1))
        self.same(seen(array)[2], ("filling", "kept"))
        self.same(array.left(0), (None, (1, 2)))
        self.same(told_data(array, 0), ((1, 2),))

    def test_wrong_numbers(self):
        array = Array(part_of_great(1, 2, 3), 1)
        wrong = NO_TUPLES + ((), (1,), (1, 2, 3), (1, 65521), (-1, 2), nested(50))
        for numbers in wrong + tuple((part, 1) for part in NO_NUMBERS):
            with self.subTest(numbers=numbers):
                self.changes_nothing(array, BadColumn, -1, array.sum_more, numbers, ((0,),))
                self.changes_nothing(array, BadColumn, -1, array.sum_more, numbers, None)

    def test_the_order_of_the_refusals(self):
        row = GREAT_TABLE[3][:2]
        full = Array(part_of_great(1, 2, 5), 1)
        self.changes_nothing(full, BadColumn, -1, full.sum_more, (1,), None)
        self.changes_nothing(full, TooMany, 6, full.sum_more, (1, 2), None)
        less = Array(part_of_great(1, 2, 5, 2), 1)
        self.changes_nothing(less, TooMany, 6, less.sum_more, (1, 2), None)
        most = Array((7, 1, 1, ((1,), (1,), (1,), (1,)), 3), 1)
        self.changes_nothing(most, TooMany, 4, most.sum_more, (1,), None)
        array = Array(part_of_great(1, 2, 3), 1)
        self.changes_nothing(array, NotStanding, 0, array.sum_more, (0, 0), None)
        self.changes_nothing(array, BadCells, -1, array.sum_more, row, None)
        self.changes_nothing(array, BadCells, 0, array.sum_more, row, ((1, 2),))
        array.new(tuple(part[2] for part in GREAT_TABLE[:3]), ((0,),))
        self.changes_nothing(array, New, 0, array.sum_more, (0, 0), None)
        self.changes_nothing(array, BadColumn, -1, array.sum_more, (0,), None)
        self.changes_nothing(most, BadColumn, -1, most.sum_more, (7,), None)


class AnyOrder(Case):
    """Beside a plain model of what the methods say."""

    def test_lose_replace_new_and_sum_more_in_any_order(self):
        numbers = Numbers(3)
        for n in (1, 2, 5):
            for rows in (1, 3):
                self.hold_steps(numbers, n, rows, 60)

    def hold_steps(self, numbers, n, rows, many):
        shape = part_of_great(1, n, 2)
        array = Array(shape, rows)
        model = [["kept", [(0,)] * rows] for _ in range(2 + n)]
        new = None
        done = {"lose": 0, "replace": 0, "new": 0, "sum_more": 0}
        for _ in range(many):
            c, e = len(shape[3]), shape[4]
            word = sorted(done)[numbers.below(4)]
            shelf = numbers.below(len(model) + (new is not None))
            cells = tuple(numbers.row(1, 65521) for _ in range(rows))
            unkept = sum(state != "kept" for state, _ in model)
            if word == "lose" and shelf == len(model):
                array.lose(shelf)
                new = None
            elif word == "lose" and model[shelf][0] == "kept" and unkept == e:
                self.refused(TooManyLost, e + 1, array.lose, shelf)
            elif word == "lose":
                array.lose(shelf)
                model[shelf] = ["lost", [None] * rows]
            elif word == "replace" and (shelf == len(model) or model[shelf][0] != "lost"):
                self.refused(NotLost, shelf, array.replace, shelf, cells)
            elif word == "replace":
                array.replace(shelf, cells)
                model[shelf] = ["filling", list(cells)]
            elif word == "new" and new is not None:
                self.refused(New, 0, array.new, (1,) * c, cells)
            elif word == "new":
                array.new(tuple(row[n] for row in GREAT_TABLE[:c]), cells)
                new = list(cells)
            elif c == 5:
                self.refused(TooMany, 6, array.sum_more, (1,) * n, cells)
            elif new is not None:
                self.refused(New, 0, array.sum_more, (1,) * n, cells)
            else:
                shape = part_of_great(1, n, c + 1)
                array.sum_more(shape[3][c], cells)
                model.insert(c, ["filling", list(cells)])
            done[word] += 1
            self.hold_model(array, shape, rows, model, new)
        self.assertTrue(all(done.values()), done)

    def hold_model(self, array, shape, rows, model, new):
        states = [state for state, _ in model] + ["new"] * (new is not None)
        cells = [tuple(part) for _, part in model] + ([tuple(new)] if new is not None else [])
        lefts = tuple(tuple(part[row] if state == "kept" else None for state, part in model) for row in range(rows))
        self.same(seen(array), (shape, rows, tuple(states), tuple(cells), lefts))


class Told(Case):
    def test_the_data_of_right_rows(self):
        numbers = Numbers(5)
        for shape in STANDING:
            rows = [numbers.matrix(shape[2], shape[1], shape[0]) for _ in range(3)]
            for lost in some_losses(shape, shape[4], 6):
                array = with_data(shape, rows)
                for shelf in lost:
                    array.lose(shelf)
                for row, data in enumerate(rows):
                    self.same(told_data(array, row), data)
                    self.same(is_whole(array, row), True)

    def test_torn_and_spoilt_rows(self):
        # Whole; sum 1 and data 0 of a deed came; the same and sum 0; no story leaves it.
        rows = [(1, 6, 2, 3, 5), (1, 0, 2, 4, 5), (2, 0, 2, 4, 5), (1, 3, 0, 0, 0)]
        array = filled(SHAPE, [tuple((number,) for number in row) for row in rows])
        self.same([told_data(array, row) for row in range(3)], [((3,), (5,)), ((3,), (5,)), ((4,), (5,))])
        self.same([is_whole(array, row) for row in range(4)], [True, False, False, False])
        self.refused(Spoilt, 3, told_data, array, 3)
        array.lose(4)
        self.same(told_data(array, 1), ((3,), (5,)))
        self.same([is_whole(array, row) for row in range(3)], [True, False, False])

    def test_filling_and_new_shelves_are_not_asked(self):
        array = with_data(BITS, [((1,), (0,))])
        array.lose(3)
        array.replace(3, ((1,),))
        self.same(told_data(array, 0), ((1,), (0,)))
        self.same(is_whole(array, 0), True)
        array = with_data((7, 1, 1, (), 0), [((4,),)])
        array.new((), ((3,),))
        self.same(told_data(array, 0), ((4,),))
        self.same(is_whole(array, 0), True)

    def test_one_cell_off_is_not_whole(self):
        for shape in (SHAPE, COPIES, ELEVEN):
            data = ((3,), (5,), (1,))[:shape[2]]
            right = right_of(shape, data)
            for shelf in range(len(right)):
                array = filled(shape, [put(right, shelf, ((right[shelf][0] + 1) % shape[0],))])
                self.same(is_whole(array, 0), False)
                array.lose(shelf)
                self.same(is_whole(array, 0), True)
                self.same(told_data(array, 0), data)

    def test_without_sums_every_row_is_whole(self):
        array = filled((7, 1, 2, (), 0), [((3,), (5,))])
        self.same(is_whole(array, 0), True)
        self.same(told_data(array, 0), ((3,), (5,)))


if __name__ == "__main__":
    unittest.main()
