"""How rows look and scrubbing [37], with mending [35] and stopped mends [36]."""

import unittest

from sumstand.batches import do, stopped
from sumstand.errors import Spoilt
from sumstand.mending import mend_row
from sumstand.scrub import looks, scrub
from sumstand.shelves import Array, is_whole, told_data
from tests.arrays import (
    BITS, COPIES, ELEVEN, Refusing, STANDING, filled, lose_all, part_of_great, seen, some_losses, spoil,
    torn_rows, twin, unkept, with_data,
)
from tests.helpers import GREAT, GREAT_TABLE, Numbers, SHAPE
from tests.listing import behind_loss, losses, put, right_of, rising, shelves, unbroken_rows

# Of SHAPE: a row that is whole, one that is torn and one that no story leaves.
WHOLE = ((1,), (6,), (2,), (3,), (5,))
TORN = ((1,), (0,), (2,), (3,), (5,))
SPOILT = ((1,), (3,), (0,), (0,), (0,))

COPIES_2 = COPIES[:4] + (2,)
SMALL = (BITS, (3, 1, 1, ((1,), (2,)), 1), (2, 1, 1, ((1,), (1,), (1,)), 2), (2, 1, 2, ((1, 1),), 0))


class Looks(Refusing):
    def test_whole_torn_and_spoilt(self):
        array = filled(SHAPE, [WHOLE, TORN, SPOILT, WHOLE])
        before = seen(array)
        self.same(looks(array), ("whole", "torn", "spoilt", "whole"))
        self.same(looks(array=array), looks(array))
        self.same(seen(array), before)
        array.lose(1)
        self.same(looks(array), ("whole", "whole", "torn", "whole"))

    def test_all_rows_whole_and_all_torn(self):
        for rows in (1, 2, 64):
            self.same(looks(filled(SHAPE, [WHOLE] * rows)), ("whole",) * rows)
            self.same(looks(filled(SHAPE, [TORN] * rows)), ("torn",) * rows)
            self.same(looks(filled(SHAPE, [SPOILT] * rows)), ("spoilt",) * rows)
            self.same(looks(Array(SHAPE, rows)), ("whole",) * rows)

    def test_of_all_shapes(self):
        numbers = Numbers(3)
        for shape in STANDING:
            array, _ = torn_rows(numbers, shape, 4)
            for lost in some_losses(shape, shape[4], 4):
                other = twin(array)
                lose_all(other, lost)
                told = looks(other)
                self.assertNotIn("spoilt", told)
                self.same(told, tuple("whole" if is_whole(other, row) else "torn" for row in range(4)))

    def test_without_sums_each_row_is_whole(self):
        array = filled((7, 1, 2, (), 0), [((3,), (5,)), ((1,), (1,))])
        self.same(looks(array), ("whole", "whole"))
        self.same(scrub(array), ())

    def test_filling_and_new_shelves_are_not_asked(self):
        array = with_data(part_of_great(1, 2, 3), [((3,), (5,))])
        array.lose(0)
        array.replace(0, ((0,),))
        array.new(tuple(row[2] for row in GREAT_TABLE[:3]), ((7,),))
        self.same(looks(array), ("whole",))
        self.same(scrub(array), ())


class Codes(Refusing):
    def test_by_hand(self):
        array = filled(SHAPE, [WHOLE, TORN, WHOLE, ((2,), (0,), (3,), (3,), (5,))])
        before = seen(array)
        self.same(scrub(array), (((1, 1, (6,)),), ((3, 3, (4,)),)))
        self.same(scrub(array=array), scrub(array))
        self.same(seen(array), before)
        do(array, scrub(array))
        self.same(looks(array), ("whole",) * 4)
        self.same(scrub(array), ())

    def test_the_row_of_copies(self):
        array = filled(COPIES, [((0,), (3,), (0,), (3,))])
        self.same(mend_row(array, 0), ((1, 0, (0,)), (3, 0, (0,))))
        self.same(scrub(array), (((1, 0, (0,)), (3, 0, (0,))),))

    def test_the_mends_of_torn_rows(self):
        numbers = Numbers(5)
        for shape in STANDING:
            for rows in (1, 5, 64):
                array, _ = torn_rows(numbers, shape, rows)
                due = tuple(mend_row(array, row) for row, look in enumerate(looks(array)) if look == "torn")
                self.same(scrub(array), due)
                do(array, scrub(array))
                self.same(looks(array), ("whole",) * rows)

    def test_one_row_spoilt_at_the_first_a_middle_and_the_last_place(self):
        for rows in (1, 3, 64):
            for at in {0, rows // 2, rows - 1}:
                for others in (WHOLE, TORN):
                    array = filled(SHAPE, [SPOILT if row == at else others for row in range(rows)])
                    self.changes_nothing(array, Spoilt, at, scrub, array)
                    self.same(looks(array)[at], "spoilt")
        array = filled(SHAPE, [TORN, SPOILT, WHOLE, SPOILT])
        self.changes_nothing(array, Spoilt, 1, scrub, array)
        array = Array(ELEVEN, 3)
        spoil(array, 1)
        self.changes_nothing(array, Spoilt, 1, scrub, array)

    def test_nothing_is_written_to_filling_lost_and_new_shelves(self):
        numbers = Numbers(7)
        shape = part_of_great(1, 3, 4)
        for _ in range(10):
            array, ends = torn_rows(numbers, shape, 4)
            array.lose(numbers.below(7))
            filling = (min(unkept(array)) + 1 + numbers.below(6)) % 7
            array.lose(filling)
            array.replace(filling, numbers.matrix(4, 1, 65521))
            array.new(tuple(row[3] for row in GREAT_TABLE[:4]), numbers.matrix(4, 1, 65521))
            before = seen(array)
            code = scrub(array)
            self.assertFalse([write for batch in code for write in batch if write[0] in unkept(array) + (7,)])
            do(array, code)
            self.same(looks(array), ("whole",) * 4)
            for shelf in unkept(array) + (7,):
                self.same(seen(array)[3][shelf], before[3][shelf])
            for row in range(4):
                self.assertIn(told_data(array, row), ends[row])


class Stops(Refusing):
    """A scrub that is stopped anywhere, with one more shelf lost behind it, and begun again."""

    def further(self, array, many):
        """Arrays as this one, with further shelves lost: every one of them, but not more than many."""
        e, count = array.shape[4], shelves(array.shape)
        room = min(many, e - len(unkept(array)))
        for more in rising(range(count)):
            if len(more) <= room and not set(more) & set(unkept(array)):
                other = twin(array)
                lose_all(other, more)
                yield other

    def hold_told(self, array, ends):
        """Each row tells one of its two sides."""
        for row, pair in enumerate(ends):
            self.assertIn(told_data(array, row), pair)

    def hold_end(self, array, ends):
        """All rows are whole and tell one of their sides, and the same behind every further loss."""
        self.same(looks(array), ("whole",) * array.rows)
        self.hold_told(array, ends)
        data = [told_data(array, row) for row in range(array.rows)]
        for other in self.further(array, 3):
            self.same([told_data(other, row) for row in range(array.rows)], data)
            self.same(looks(other), ("whole",) * array.rows)

    def hold_stop(self, array, code, many, came, ends):
        """Behind a stop of the scrub: what was told is told, also of the row that it fell into."""
        torn = twin(array)
        stopped(torn, code, many, came)
        data = [told_data(array, row) for row in range(array.rows)]
        self.same([told_data(torn, row) for row in range(array.rows)], data)
        for shelf in unkept(array):
            self.same(seen(torn)[3][shelf], seen(array)[3][shelf])
        for other in self.further(torn, 1):
            self.hold_told(other, ends)
            do(other, scrub(other))
            self.hold_end(other, ends)

    def hold_all_stops(self, array, ends):
        code = scrub(array)
        for many in range(len(code) + 1):
            torn = code[many] if many < len(code) else ()
            for came in rising(range(len(torn))):
                self.hold_stop(array, code, many, came, ends)

    def test_all_rows_that_stories_leave_of_small_shapes_with_every_loss(self):
        for shape in SMALL:
            for row, found in unbroken_rows(shape).items():
                for lost in losses(shape, shape[4]):
                    array = filled(shape, [row])
                    lose_all(array, lost)
                    for edge in found:
                        with self.subTest(shape=shape, row=row, lost=lost):
                            self.assertIn(told_data(array, 0), edge)
                    do(array, scrub(array))
                    self.same(looks(array), ("whole",))

    def test_every_stop_of_rows_of_small_shapes(self):
        for shape in SMALL[:3]:
            rows = list(unbroken_rows(shape).items())
            for row, found in rows[::3]:
                for lost in losses(shape, shape[4]):
                    array = filled(shape, [row])
                    lose_all(array, lost)
                    for edge in list(found)[:2]:
                        self.hold_all_stops(array, [edge])

    def test_every_stop_of_several_torn_rows(self):
        numbers = Numbers(11)
        for shape in (SHAPE, COPIES, COPIES_2, ELEVEN):
            for lost in some_losses(shape, shape[4] - 1, 3) + [()]:
                array, ends = torn_rows(numbers, shape, 3)
                lose_all(array, lost)
                self.hold_all_stops(array, ends)

    def test_stopped_again_and_again(self):
        numbers = Numbers(13)
        for shape in (SHAPE, COPIES_2, ELEVEN, part_of_great(2, 3, 4), GREAT):
            for _ in range(3):
                array, ends = torn_rows(numbers, shape, 4)
                told = [told_data(array, row) for row in range(4)]
                for step in range(6):
                    code = scrub(array)
                    many = numbers.below(min(2, len(code)) + 1)
                    torn = code[many] if many < len(code) else ()
                    came = tuple(index for index in range(len(torn)) if numbers.below(2))
                    stopped(array, code, many, came)
                    self.same([told_data(array, row) for row in range(4)], told)
                    if step == 3 and len(unkept(array)) < shape[4]:
                        array.lose(numbers.below(shelves(shape)))
                        self.hold_told(array, ends)
                        told = [told_data(array, row) for row in range(4)]
                do(array, scrub(array))
                self.same([told_data(array, row) for row in range(4)], told)
                self.hold_told(array, ends)

    def test_the_other_rows_stay(self):
        numbers = Numbers(17)
        for shape in (SHAPE, ELEVEN):
            array, _ = torn_rows(numbers, shape, 5)
            do(array, scrub(array))
            torn = twin(array)
            do(torn, (((1, 2, numbers.row(shape[1], shape[0])),),))
            for row in (0, 1, 3, 4):
                self.same(torn.left(row), array.left(row))
            do(torn, scrub(torn))
            self.same(seen(torn), seen(array))

    def test_a_whole_row_tells_the_same_with_every_loss(self):
        for shape in STANDING:
            data = tuple(((x + 1) % shape[0],) * shape[1] for x in range(shape[2]))
            array = with_data(shape, [data])
            for lost in some_losses(shape, shape[4], 20):
                other = twin(array)
                lose_all(other, lost)
                self.same(told_data(other, 0), data)
                self.same(scrub(other), ())
                self.same(other.left(0), behind_loss(right_of(shape, data), lost))

    def test_one_cell_off_in_each_row(self):
        right = right_of(ELEVEN, ((3,), (5,), (1,)))
        for shelf in range(len(right)):
            array = filled(ELEVEN, [right, put(right, shelf, (0,)), right])
            if right[shelf] != (0,):
                self.same(scrub(array), (((shelf, 1, right[shelf]),),))


if __name__ == "__main__":
    unittest.main()
