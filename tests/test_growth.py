"""A data shelf more [39], a data shelf less [40] and a sum less [41], beside new shelves and sums [29]."""

import unittest

from sumstand.batches import deed, do, stopped
from sumstand.cellstore import Cells
from sumstand.celltexts import array_text, read_array
from sumstand.errors import (
    New, NoNew, NoSum, NotBlank, NotKept, NotStanding, OnlyOne, Spoilt, TooManyLost, Torn,
)
from sumstand.filling import fill, trust
from sumstand.growth import blank, join, leave, sum_less
from sumstand.judge import stands
from sumstand.scrub import scrub
from sumstand.shelves import Array, told_data
from tests.arrays import COPIES, Refusing, STANDING, filled, part_of_great, seen, torn_rows, twin, with_data
from tests.helpers import GREAT, GREAT_TABLE, Numbers, SHAPE
from tests.listing import put, right_of, rising, shelves

WHOLE = ((1,), (6,), (2,), (3,), (5,))
TORN = ((1,), (0,), (2,), (3,), (5,))
SPOILT = ((1,), (3,), (0,), (0,), (0,))


def column_of_great(x, c):
    return tuple(row[x] for row in GREAT_TABLE[:c])


def grown(shape, rows, cells):
    """An array with the right rows of these data, and a new shelf with these cells."""
    array = with_data(shape, rows)
    array.new(column_of_great(shape[2], len(shape[3])), cells)
    return array


def one_off(shape, data):
    """A row with one wrong cell, which is torn."""
    right = right_of(shape, data)
    return put(right, 0, ((right[0][0] + 1) % shape[0],) + right[0][1:])


class Blanks(Refusing):
    def test_one_batch_for_each_cell_that_is_not_nought(self):
        shape = part_of_great(2, 2, 3)
        rows = [((1, 2), (3, 4))] * 4
        array = grown(shape, rows, ((0, 0), (0, 1), (5, 0), (65520, 65520)))
        before = seen(array)
        self.same(blank(array=array), (((5, 1, (0, 0)),), ((5, 2, (0, 0)),), ((5, 3, (0, 0)),)))
        self.same(seen(array), before)
        stopped(array, blank(array), 1, ())
        self.same(blank(array), (((5, 2, (0, 0)),), ((5, 3, (0, 0)),)))
        stopped(array, blank(array), 0, (0,))
        do(array, blank(array))
        self.same(blank(array), ())
        self.same([array.cell(row, 5) for row in range(4)], [(0, 0)] * 4)
        self.same([told_data(array, row) for row in range(4)], rows)

    def test_no_new_shelf(self):
        for array in (Array(SHAPE, 1), filled(SHAPE, [SPOILT])):
            self.changes_nothing(array, NoNew, 0, blank, array)
            self.changes_nothing(array, NoNew, 0, join, array)

    def test_rows_are_not_asked(self):
        array = Array(part_of_great(1, 1, 3), 2)
        array.new(column_of_great(1, 3), ((1,), (0,)))
        do(array, (((0, 0, (3,)), (1, 0, (4,)), (2, 0, (5,))),))
        self.refused(Spoilt, 0, scrub, array)
        self.same(blank(array), (((4, 0, (0,)),),))

    def test_all_64_rows(self):
        array = Array((7, 1, 5, (), 0), 64)
        array.new((), ((6,),) * 64)
        self.same(blank(array), tuple(((5, row, (0,)),) for row in range(64)))
        do(array, blank(array))
        join(array)
        self.same(array.shape, (7, 1, 6, (), 0))


class Joins(Refusing):
    def test_the_new_shelf_is_the_last_data_shelf(self):
        shape = part_of_great(2, 2, 3)
        rows = [((1, 2), (3, 4)), ((0, 0), (9, 9))]
        array = grown(shape, rows, ((0, 0), (0, 0)))
        self.same(join(array=array), None)
        self.same(array.shape, part_of_great(2, 3, 3))
        self.same([array.state(shelf) for shelf in range(6)], ["kept"] * 6)
        self.same([told_data(array, row) for row in (0, 1)], [data + ((0, 0),) for data in rows])
        self.same(seen(array), seen(with_data(part_of_great(2, 3, 3), [data + ((0, 0),) for data in rows])))
        self.same(Cells(array).size(), 6)
        self.same([Cells(array).look(a) for a in range(6)], [(1, 2), (0, 0), (3, 4), (9, 9), (0, 0), (0, 0)])
        do(array, deed(array, 1, 2, (7, 8)))
        array.lose(5)
        self.same(told_data(array, 1), ((0, 0), (9, 9), (7, 8)))

    def test_up_to_six(self):
        array = with_data(part_of_great(1, 1, 5), [((3,),)])
        for n in range(1, 6):
            array.new(column_of_great(n, 5), ((8,),))
            do(array, blank(array))
            join(array)
            self.same(array.shape, part_of_great(1, n + 1, 5))
            do(array, deed(array, 0, n, (n + 1,)))
        self.same(told_data(array, 0), ((3,), (2,), (3,), (4,), (5,), (6,)))

    def test_lost_and_filling_shelves_stay_so(self):
        array = grown(part_of_great(1, 2, 4), [((3,), (5,))], ((0,),))
        array.lose(5)
        array.lose(1)
        array.replace(1, ((9,),))
        join(array)
        self.same([array.state(shelf) for shelf in range(7)], ["kept", "filling", "kept", "kept", "kept", "lost", "kept"])
        self.same(told_data(array, 0), ((3,), (5,), (0,)))
        do(array, fill(array))
        trust(array)
        self.same(told_data(array, 0), ((3,), (5,), (0,)))

    def test_refusals_in_their_order(self):
        shape = part_of_great(1, 2, 3)
        rows = [((1,), (2,)), ((3,), (4,)), ((5,), (6,))]
        for at in range(3):
            array = grown(shape, rows, tuple((1,) if row >= at else (0,) for row in range(3)))
            self.changes_nothing(array, NotBlank, at, join, array)
            # A torn row is told first, also a later one; and so is a spoilt one.
            for wrong in (one_off(shape, rows[2]), ((1,), (2,), (4,), (8,), (16,))):
                torn = twin(array)
                do(torn, (tuple((shelf, 2, cell) for shelf, cell in enumerate(wrong)),))
                self.changes_nothing(torn, Torn, 2, join, torn)
            do(array, blank(array))
            join(array)
            self.changes_nothing(array, NoNew, 0, join, array)
        array = filled(shape, [one_off(shape, rows[0])])
        self.changes_nothing(array, NoNew, 0, join, array)

    def test_blanked_halfway_and_lost_again(self):
        array = grown(part_of_great(1, 2, 3), [((1,), (2,)), ((3,), (4,))], ((1,), (2,)))
        before = seen(with_data(part_of_great(1, 2, 3), [((1,), (2,)), ((3,), (4,))]))
        stopped(array, blank(array), 1, ())
        self.changes_nothing(array, NotBlank, 1, join, array)
        array.lose(5)
        self.same(seen(array), before)
        self.changes_nothing(array, NoNew, 0, join, array)
        array.new(column_of_great(3, 3), ((7,), (0,)))
        do(array, blank(array))
        join(array)
        self.same(array.shape[3], tuple(row[:2] + (row[3],) for row in GREAT_TABLE[:3]))


class Leaves(Refusing):
    def test_the_last_data_shelf_goes(self):
        shape = part_of_great(2, 3, 3)
        rows = [((1, 2), (3, 4), (0, 0)), ((5, 6), (0, 0), (0, 0))]
        array = with_data(shape, rows)
        self.same(leave(array=array), None)
        self.same(array.shape, part_of_great(2, 2, 3))
        self.same(seen(array), seen(with_data(part_of_great(2, 2, 3), [data[:2] for data in rows])))
        self.changes_nothing(array, NotBlank, 0, leave, array)

    def test_led_to_nought_and_left_again(self):
        array = grown(part_of_great(1, 1, 3), [((3,),), ((5,),)], ((9,), (9,)))
        before = seen(with_data(part_of_great(1, 1, 3), [((3,),), ((5,),)]))
        do(array, blank(array))
        join(array)
        do(array, Cells(array).drive(((2, (7,)), (3, (8,)))))
        self.changes_nothing(array, NotBlank, 0, leave, array)
        do(array, Cells(array).drive(((2, (0,)),)))
        self.changes_nothing(array, NotBlank, 1, leave, array)
        do(array, Cells(array).drive(((3, (0,)),)))
        leave(array)
        self.same(seen(array), before)

    def test_other_shelves_need_not_be_kept(self):
        array = with_data(part_of_great(1, 3, 4), [((3,), (5,), (0,))])
        array.lose(0)
        array.lose(5)
        array.replace(5, ((1,),))
        leave(array)
        self.same([array.state(shelf) for shelf in range(6)], ["lost", "kept", "kept", "kept", "kept", "filling"])
        self.same(told_data(array, 0), ((3,), (5,)))

    def test_refusals_in_their_order(self):
        one = with_data(part_of_great(1, 1, 3), [((0,),)])
        one.new(column_of_great(1, 3), ((0,),))
        one.lose(3)
        self.changes_nothing(one, OnlyOne, 0, leave, one)
        shape = part_of_great(1, 2, 4)
        data = ((1,), (2,))
        array = filled(shape, [right_of(shape, data), one_off(shape, data)])
        array.lose(5)
        array.new(column_of_great(2, 4), ((0,), (0,)))
        self.changes_nothing(array, New, 0, leave, array)
        array.lose(6)
        self.changes_nothing(array, NotKept, 5, leave, array)
        array.replace(5, ((2,), (2,)))
        self.changes_nothing(array, NotKept, 5, leave, array)
        do(array, scrub(array))
        trust(array)
        do(array, (((0, 1, (1,)),),))
        self.changes_nothing(array, Torn, 1, leave, array)
        do(array, scrub(array))
        self.changes_nothing(array, NotBlank, 0, leave, array)

    def test_torn_ahead_of_not_blank(self):
        for wrong in (TORN, SPOILT):
            for at in (0, 2):
                array = filled(SHAPE, [wrong if row == at else WHOLE for row in range(3)])
                self.changes_nothing(array, Torn, at, leave, array)
        blank_row = right_of(SHAPE, ((3,), (0,)))
        array = filled(SHAPE, [blank_row, WHOLE, blank_row, WHOLE])
        self.changes_nothing(array, NotBlank, 1, leave, array)

    def test_without_sums(self):
        array = filled((7, 1, 3, (), 0), [((1,), (2,), (0,)), ((1,), (0,), (0,))])
        leave(array)
        self.changes_nothing(array, NotBlank, 0, leave, array)
        do(array, (((1, 0, (0,)),),))
        leave(array)
        self.same(seen(array), seen(filled((7, 1, 1, (), 0), [((1,),), ((1,),)])))
        self.changes_nothing(array, OnlyOne, 0, leave, array)


class LessSums(Refusing):
    def test_the_last_sum_goes(self):
        for n, c in ((1, 4), (2, 5), (3, 4), (6, 5)):
            rows = [tuple((x + 1,) for x in range(n)), tuple((x * x,) for x in range(n))]
            array = with_data(part_of_great(1, n, c), rows)
            self.same(sum_less(array=array), None)
            self.same(array.shape, part_of_great(1, n, c - 1))
            self.same(seen(array), seen(with_data(part_of_great(1, n, c - 1), rows)))

    def test_down_to_no_sum(self):
        array = with_data((7, 1, 1, ((1,), (1,)), 1), [((5,),)])
        sum_less(array)
        self.same(array.shape, (7, 1, 1, ((1,),), 0))
        self.changes_nothing(array, NoSum, 0, sum_less, array)
        bare = Array((7, 1, 1, (), 0), 1)
        self.changes_nothing(bare, NoSum, 0, sum_less, bare)
        one = with_data((7, 1, 1, ((3,),), 1), [((5,),)])
        sum_less(one)
        self.same(seen(one), seen(with_data((7, 1, 1, (), 0), [((5,),)])))
        self.changes_nothing(one, NoSum, 0, sum_less, one)

    def test_states_move_with_their_shelves(self):
        array = with_data(part_of_great(1, 3, 5), [((1,), (2,), (3,))])
        array.lose(5)
        array.lose(7)
        array.replace(7, ((9,),))
        sum_less(array)
        self.same(array.shape, part_of_great(1, 3, 4))
        states = ["kept"] * 4 + ["lost", "kept", "filling"]
        self.same([array.state(shelf) for shelf in range(7)], states)
        self.same([array.cell(0, shelf) for shelf in (4, 5, 6)], [None, (2,), (9,)])
        self.same(told_data(array, 0), ((1,), (2,), (3,)))

    def test_the_last_sum_may_be_lost_or_filling(self):
        for filling in (False, True):
            array = with_data(part_of_great(1, 2, 4), [((1,), (2,))])
            array.lose(3)
            if filling:
                array.replace(3, ((5,),))
            array.lose(0)
            sum_less(array)
            self.same(array.shape, part_of_great(1, 2, 3))
            self.same([array.state(shelf) for shelf in range(5)], ["lost", "kept", "kept", "kept", "kept"])

    def test_one_more_and_one_less(self):
        """A sum that was put in with any cells goes again, filled or not."""
        for done in (False, True):
            array = with_data(part_of_great(1, 3, 3), [((1,), (2,), (3,)), ((4,), (5,), (6,))])
            array.lose(4)
            before = seen(array)
            array.sum_more(GREAT_TABLE[3][:3], ((7,), (8,)))
            if done:
                do(array, fill(array))
                trust(array)
            sum_less(array)
            self.same(seen(array), before)

    def test_refusals_in_their_order(self):
        none = filled((7, 1, 1, ((1,),), 0), [((3,), (4,))])
        none.new((2,), ((0,),))
        self.changes_nothing(none, NoSum, 0, sum_less, none)
        shape = part_of_great(1, 2, 4)
        array = filled(shape, [one_off(shape, ((1,), (2,)))])
        array.lose(4)
        array.lose(5)
        array.new(column_of_great(2, 4), ((0,),))
        self.changes_nothing(array, New, 0, sum_less, array)
        array.lose(6)
        self.changes_nothing(array, TooManyLost, 2, sum_less, array)
        array.replace(5, ((2,),))
        do(array, fill(array))
        do(array, (((1, 0, (1,)),),))
        self.changes_nothing(array, TooManyLost, 2, sum_less, array)

    def test_what_stands_stands_without_its_last_sum(self):
        """What clashed without it would clash behind its loss, so an array that is made is never so refused."""
        for shape in STANDING:
            p, wide, n, table, e = shape
            if table and e:
                self.same(stands((p, wide, n, table[:-1], e - 1)), True)

    def test_a_shape_that_would_not_stand(self):
        array = filled(SHAPE, [TORN])
        array.lose(0)
        # The table is given another row and e one more from behind, as no method does it.
        array.shape = (7, 1, 2, ((1, 1), (0, 0), (1, 4)), 2)
        self.refused(NotStanding, 0, sum_less, array)
        array.shape = SHAPE
        self.same(seen(array), seen(lost_one(filled(SHAPE, [TORN]), 0)))

    def test_too_many_lost_ahead_of_torn(self):
        shape = part_of_great(1, 2, 4)
        array = filled(shape, [right_of(shape, ((1,), (2,))), one_off(shape, ((1,), (2,)))])
        self.changes_nothing(array, Torn, 1, sum_less, array)
        array.lose(4)
        self.changes_nothing(array, Torn, 1, sum_less, array)
        array.lose(5)
        self.changes_nothing(array, TooManyLost, 2, sum_less, array)
        array.replace(5, ((2,), (2,)))
        self.changes_nothing(array, TooManyLost, 2, sum_less, array)

    def test_spoilt_rows_are_torn(self):
        for at in (0, 2):
            array = filled(SHAPE, [SPOILT if row == at else WHOLE for row in range(3)])
            self.changes_nothing(array, Torn, at, sum_less, array)
        array = filled(COPIES, [((0,), (3,), (0,), (3,))])
        self.changes_nothing(array, Torn, 0, sum_less, array)


def lost_one(array, shelf):
    array.lose(shelf)
    return array


class AnyOrder(Refusing):
    """new, sum_more, join, leave and sum_less in any order, beside plain data."""

    def hold(self, array, rows, states):
        shape = part_of_great(1, array.shape[2], len(array.shape[3]))
        self.same(array.shape, shape)
        self.same([told_data(array, row) for row in range(len(rows))], rows)
        self.same([array.state(shelf) for shelf in range(shelves(shape))], states)
        for row, data in enumerate(rows):
            right = right_of(shape, data)
            for shelf, state in enumerate(states):
                if state == "kept":
                    self.same(array.cell(row, shelf), right[shelf])

    def step(self, numbers, array, rows, states, done):
        n, c = array.shape[2], len(array.shape[3])
        word = ("new", "more", "leave", "less", "lose", "fill")[numbers.below(6)]
        many = len(rows)
        unkept = [shelf for shelf, state in enumerate(states) if state != "kept"]
        if word == "new" and n < 4:
            array.new(column_of_great(n, c), numbers.matrix(many, 1, 3))
            do(array, blank(array))
            join(array)
            rows[:] = [data + ((0,),) for data in rows]
            states.append("kept")
        elif word == "more" and c < 5:
            array.sum_more(GREAT_TABLE[c][:n], numbers.matrix(many, 1, 65521))
            states.insert(c, "filling")
        elif word == "leave" and n > 1 and states[-1] == "kept":
            address = (n - 1) * many
            do(array, Cells(array).drive(tuple((address + row, (0,)) for row in range(many))))
            leave(array)
            rows[:] = [data[:-1] for data in rows]
            states.pop()
        elif word == "less" and c > 3 and len(set(unkept) - {c - 1}) <= c - 3:
            sum_less(array)
            del states[c - 1]
        elif word == "lose" and len(unkept) < c - 2:
            shelf = numbers.below(c + n)
            array.lose(shelf)
            states[shelf] = "lost"
        elif word == "fill":
            for shelf, state in enumerate(states):
                if state == "lost":
                    array.replace(shelf, numbers.matrix(many, 1, 65521))
            do(array, fill(array))
            trust(array)
            states[:] = ["kept"] * len(states)
        else:
            return
        done[word] = done.get(word, 0) + 1

    def test_scripts(self):
        numbers = Numbers(19)
        done = {}
        for _ in range(6):
            rows = [numbers.matrix(2, 1, 65521) for _ in range(3)]
            array = with_data(part_of_great(1, 2, 3), rows)
            states = ["kept"] * 5
            for _ in range(40):
                self.step(numbers, array, rows, states, done)
                if numbers.below(2):
                    row, x, cell = numbers.below(3), numbers.below(array.shape[2]), (numbers.below(65521),)
                    do(array, deed(array, row, x, cell))
                    rows[row] = put(rows[row], x, cell)
                self.hold(array, rows, states)
            self.same(seen(read_array(array_text(array))), seen(array))
        self.same(sorted(done), ["fill", "leave", "less", "lose", "more", "new"])

    def test_stops_while_it_grows(self):
        """A deed is torn while a new shelf stands there, and the row is mended ahead of joining."""
        numbers = Numbers(23)
        shape = part_of_great(1, 2, 3)
        for came in rising(range(4)):
            array, ends = torn_rows(numbers, shape, 2)
            do(array, scrub(array))
            data = told_data(array, 0)
            array.new(column_of_great(2, 3), ((1,), (0,)))
            stopped(array, deed(array, 0, 1, (data[1][0] ^ 1,)), 0, came)
            do(array, scrub(array) + blank(array))
            join(array)
            self.assertIn(told_data(array, 0), (data + ((0,),), (data[0], (data[1][0] ^ 1,), (0,))))
            self.same(told_data(array, 1)[2], (0,))

    def test_the_greatest_array_leaves_and_joins(self):
        array = Array(GREAT, 64)
        do(array, Cells(array).drive(tuple((a, (a,) * 32) for a in range(64))))
        leave(array)
        sum_less(array)
        self.same(array.shape, GREAT[:2] + (5, tuple(row[:5] for row in GREAT_TABLE[:4]), 2))
        array.new(column_of_great(5, 4), ((3,) * 32,) * 64)
        do(array, blank(array))
        join(array)
        array.sum_more(GREAT_TABLE[4], ((1,) * 32,) * 64)
        do(array, fill(array))
        trust(array)
        self.same(array.shape, GREAT)
        self.same(Cells(array).look(63), (63,) * 32)


if __name__ == "__main__":
    unittest.main()
