"""Safe losses [16], shapes that stand [17], and the judges of [0.2]."""

import time
import unittest

from sumstand.errors import BadShelf
from sumstand.judge import clash_in, first_clash, safe, stands
from sumstand.papers import stand_paper
from sumstand.stories import clash, left_by, made_story
from tests.helpers import (
    Case, GREAT, GREAT_TABLE, NO_LOSSES, NO_NUMBERS, NO_TUPLES, Numbers, SHAPE, WRONG_SHAPES, nested, some_shapes,
)
from tests.listing import listed_safe, losses, unbroken_rows

CLASH_SHAPE = (7, 1, 3, ((1, 1, 1), (1, 2, 3)), 1)

STANDING = (
    SHAPE,
    (11, 1, 3, ((1, 1, 1), (1, 5, 2), (1, 9, 7)), 1),
    (2, 1, 2, ((1, 0), (0, 1)), 1),
)

# Tables of all sizes: no sum, a column of noughts, columns alike by a factor, rows alike, one data shelf.
TABLES = (
    (2, 1, ()),
    (2, 1, ((1,),)),
    (2, 1, ((0,), (1,))),
    (2, 1, ((1,), (1,), (1,), (0,), (1,))),
    (2, 2, ((1, 0), (0, 1))),
    (2, 2, ((1, 1), (1, 0), (0, 1))),
    (2, 2, ((1, 0), (1, 0), (0, 1), (0, 1))),
    (2, 2, ((1, 0), (1, 0))),
    (2, 3, ((1, 1, 1), (1, 0, 1))),
    (2, 3, ((1, 0, 0), (0, 1, 0), (0, 0, 1))),
    (2, 3, ((1, 1, 0), (0, 1, 1), (1, 0, 1), (1, 1, 1))),
    (3, 1, ((1,), (2,))),
    (3, 1, ((0,), (0,))),
    (3, 2, ()),
    (3, 2, ((1, 1), (1, 2))),
    (3, 2, ((1, 2), (1, 2))),
    (3, 2, ((0, 1), (0, 2), (0, 1))),
    (3, 2, ((1, 1), (1, 2), (1, 0))),
    (3, 2, ((1, 2), (2, 1), (0, 1))),
    (3, 3, ((1, 1, 1), (1, 2, 0))),
)


class Told(Case):
    """How two stories that are told are looked at."""

    def hold_clash(self, shape, lost, one, two):
        for story in (one, two):
            made_story(shape, story)
        self.assertTrue(clash(shape, lost, one, two))
        self.same(left_by(shape, one, lost), left_by(shape, two, lost))


class Listing(Told):
    """Beside all pairs of stories of small shapes."""

    def hold_table(self, p, wide, n, table):
        shape = (p, wide, n, table, 0)
        unbroken = unbroken_rows(shape)
        listed = {lost: listed_safe(unbroken, lost) for lost in losses(shape)}
        for lost, told in listed.items():
            with self.subTest(shape=shape, lost=lost):
                self.assertIs(safe(shape, lost), told)
                stories = clash_in(shape, lost)
                if told:
                    self.assertIsNone(stories)
                else:
                    self.hold_clash(shape, lost, *stories)
                    self.same(clash_in(shape, lost), stories)
        for e in range(4):
            self.hold_shape((p, wide, n, table, e), listed)

    def hold_shape(self, shape, listed):
        """stands and first_clash of a shape whose losses are listed."""
        unsafe = [lost for lost, told in listed.items() if not told and len(lost) <= shape[4]]
        with self.subTest(shape=shape):
            self.assertIs(stands(shape), not unsafe)
            if not unsafe:
                self.assertIsNone(first_clash(shape))
                return
            found = first_clash(shape)
            self.assertIsInstance(found, tuple)
            self.assertEqual(len(found), 3)
            self.same(found[0], min(unsafe, key=lambda lost: (len(lost), lost)))
            self.hold_clash(shape, *found)
            self.same(first_clash(shape), found)

    def test_small_shapes(self):
        for p, n, table in TABLES:
            self.hold_table(p, 1, n, table)

    def test_wide_cells(self):
        for p, n, table in TABLES[:8] + TABLES[11:13]:
            self.hold_table(p, 2, n, table)


class Examples(Told):
    def test_tables_that_stand(self):
        for shape in STANDING:
            with self.subTest(shape=shape):
                self.same(stands(shape), True)
                self.same(first_clash(shape), None)
                for lost in losses(shape, 1):
                    self.same(safe(shape, lost), True)
                    self.same(clash_in(shape, lost), None)

    def test_the_loss_that_is_not_safe(self):
        self.same(safe(CLASH_SHAPE, (2,)), False)
        self.hold_clash(CLASH_SHAPE, (2,), *clash_in(CLASH_SHAPE, (2,)))
        self.same(stands(CLASH_SHAPE), False)
        self.same(first_clash(CLASH_SHAPE)[0], (2,))
        self.same(safe(CLASH_SHAPE, ()), True)
        self.same(safe(CLASH_SHAPE, (0, 1)), True)


class Losses(Told):
    def test_nothing_lost_or_sums_alone_is_safe(self):
        for shape in some_shapes(3, 60):
            for lost in losses(shape):
                if all(shelf < len(shape[3]) for shelf in lost):
                    self.same(safe(shape, lost), True)
                    self.same(clash_in(shape, lost), None)

    def test_all_shelves_lost(self):
        for shape in some_shapes(5, 30):
            lost = tuple(range(len(shape[3]) + shape[2]))
            self.same(safe(shape, lost), False)
            self.hold_clash(shape, lost, *clash_in(shape, lost))

    def test_a_column_of_noughts(self):
        shape = (7, 2, 2, ((1, 0), (2, 0), (3, 0)), 1)
        self.same(safe(shape, (4,)), False)
        self.hold_clash(shape, (4,), *clash_in(shape, (4,)))
        # Nothing that a deed on data 1 writes is seen, so the row tells data 0 as long as sums do.
        self.same(safe(shape, (3,)), True)

    def test_columns_alike_by_a_factor(self):
        shape = (7, 1, 2, ((1, 3), (2, 6), (4, 5)), 1)
        for lost in ((3,), (4,), (3, 4)):
            self.same(safe(shape, lost), False)
            self.hold_clash(shape, lost, *clash_in(shape, lost))

    def test_columns_that_are_the_same(self):
        # The whole column of data 1 looks like data 0, though it is not data 0 itself.
        shape = (5, 1, 2, ((1, 1), (2, 2), (3, 3), (4, 4)), 1)
        self.same(safe(shape, (4,)), False)
        self.hold_clash(shape, (4,), *clash_in(shape, (4,)))

    def test_wide_cells_do_not_matter(self):
        for shape in some_shapes(7, 40):
            lost = tuple(range(0, len(shape[3]) + shape[2], 2))
            answers = [safe((shape[0], wide) + shape[2:], lost) for wide in (1, 2, 32)]
            self.assertEqual(len(set(answers)), 1)

    def test_more_lost_are_no_safer(self):
        for shape in some_shapes(9, 25):
            found = {lost: safe(shape, lost) for lost in losses(shape, 3)}
            for lost, told in found.items():
                for less in found:
                    if set(less) < set(lost) and told:
                        self.assertTrue(found[less], (shape, lost, less))


class Shapes(Told):
    def test_a_paper_or_a_clash_never_both(self):
        stood = 0
        for shape in some_shapes(11, 150):
            found = first_clash(shape)
            with self.subTest(shape=shape):
                self.assertIs(stands(shape), found is None)
                self.assertIs(stands(shape), all(safe(shape, lost) for lost in losses(shape, shape[4])))
                if found is None:
                    stand_paper(shape)
                    stood += 1
                else:
                    self.hold_clash(shape, *found)
                    self.assertFalse(safe(shape, found[0]))
        self.assertGreater(stood, 20)
        self.assertLess(stood, 130)

    def test_with_e_0_all_shapes_stand(self):
        for shape in some_shapes(13, 40):
            self.same(stands(shape[:4] + (0,)), True)
            self.same(first_clash(shape[:4] + (0,)), None)

    def test_no_sum(self):
        self.same(stands((7, 1, 1, (), 0)), True)
        self.same(stands((7, 1, 1, (), 1)), False)
        self.same(first_clash((7, 1, 6, (), 3))[0], (0,))

    def test_one_data_shelf(self):
        # With one copy and e 1 the other cell tells a row that may be torn, but always one of the two.
        self.same(stands((7, 1, 1, ((1,),), 1)), True)
        self.same(stands((7, 1, 1, ((1,),), 2)), False)
        self.same(stands((7, 1, 1, ((1,), (1,), (1,)), 3)), stands((7, 32, 1, ((1,), (1,), (1,)), 3)))

    def test_few_sums_never_stand(self):
        numbers = Numbers(17)
        for n in (3, 6):
            for e in (1, 2, 3):
                for c in range(e + 2):
                    for p in (2, 7, 65521):
                        self.same(stands((p, 1, n, numbers.matrix(c, n, p), e)), False)

    def test_of_the_greatest_shape_within_a_few_seconds(self):
        start = time.monotonic()
        self.same(stands(GREAT), True)
        self.same(first_clash(GREAT), None)
        self.same(stands((65521, 32, 6, GREAT_TABLE[:4] + (GREAT_TABLE[3],), 3)), False)
        self.same(stands((65521, 32, 6, ((1,) * 6,) * 5, 3)), False)
        self.same(stands((65521, 32, 6, ((0,) * 6,) * 5, 3)), False)
        self.assertLess(time.monotonic() - start, 5)


class Refusals(Case):
    THINGS = NO_TUPLES + NO_NUMBERS + ((), SHAPE[:4], SHAPE + (0,), nested(50), (0,) * 9999, (SHAPE,) * 1000)

    def test_the_judges_return_false_for_what_has_not_the_form(self):
        for thing in self.THINGS + tuple(shape for shape, _ in WRONG_SHAPES):
            with self.subTest(thing=thing):
                self.same(stands(thing), False)
                self.same(safe(thing, ()), False)
                self.same(safe(thing, thing), False)
        for lost in NO_LOSSES:
            with self.subTest(lost=lost):
                self.same(safe(SHAPE, lost), False)

    def test_shared_parts(self):
        row = (1, 1)
        cell = (row,) * 5
        self.same(stands((7, 1, 2, (row, row), 0)), True)
        self.same(stands((7, 1, 2, (cell, cell), 0)), False)
        self.same(stands((cell, cell, cell, cell, cell)), False)
        self.same(safe(SHAPE, (row, row)), False)

    def test_clash_in_asks_the_shape_then_the_loss(self):
        self.wants_shape(clash_in, (2,))
        self.wants_shape(clash_in, None)
        for lost in NO_LOSSES:
            with self.subTest(lost=lost):
                self.refused(BadShelf, -1, clash_in, SHAPE, lost)

    def test_first_clash_asks_the_shape(self):
        self.wants_shape(first_clash)


if __name__ == "__main__":
    unittest.main()
