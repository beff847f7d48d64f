"""Edges [9] and what is told of a left row [10], [11], with the examples of [12]."""

import itertools
import time
import unittest

from sumstand.errors import BadCell, TooFew, TwoWorlds
from sumstand.judge import stands
from sumstand.readings import edges, told
from sumstand.stories import at_rest, clash, ends, left_by, made_story
from tests.helpers import (
    Case, GREAT, GREAT_TABLE, NO_NUMBERS, NO_TUPLES, Numbers, SHAPE, nested, some_story,
)
from tests.listing import (
    all_cells, behind_loss, clashing, disjoint, left_rows, losses, right_of, unbroken_rows, whole_rows,
)

# Shapes of which all stories can be listed.
SMALL = (
    (2, 1, 1, (), 1),
    (2, 1, 2, ((1, 0), (0, 1)), 1),
    (2, 1, 2, ((1, 1), (1, 1), (0, 1)), 1),
    (2, 1, 3, ((1, 1, 1), (1, 0, 1)), 1),
    (2, 1, 3, ((1, 1, 0), (0, 1, 1), (1, 0, 1), (1, 1, 1)), 2),
    (2, 2, 2, ((1, 1), (0, 1)), 1),
    (2, 2, 1, ((1,), (1,)), 1),
    (2, 1, 2, ((1, 1), (1, 0), (0, 1), (1, 1), (0, 0)), 1),
    (3, 1, 1, ((1,), (2,), (0,)), 1),
    (3, 1, 2, (), 0),
    (3, 1, 2, ((1, 1), (1, 2)), 1),
    (3, 1, 2, ((1, 2), (2, 1), (0, 1)), 1),
    (3, 1, 3, ((1, 1, 2), (0, 1, 1)), 2),
    (3, 2, 1, ((1,), (2,)), 1),
    (3, 2, 1, ((1,), (0,)), 2),
)

# Too many rows to ask of each: of these every so many is taken.
THINNED = (
    (3, 2, 2, ((1, 1), (1, 2)), 1),
    (3, 1, 3, ((1, 1, 1), (0, 1, 2), (1, 0, 1)), 1),
    (2, 2, 2, ((1, 0), (1, 1), (0, 1)), 1),
)


def row_of(*numbers):
    """A left row with cells of one number each."""
    return tuple(None if number is None else (number,) for number in numbers)


def agreeing(shape, left, data):
    return sum(1 for cell, due in zip(left, right_of(shape, data)) if cell == due)


def told_by_listing(shape, left, found, whole):
    """What [10] says of a row, from all its edges and its whole data; "clash" where two stories clash."""
    if clashing(found):
        return "clash"
    if whole:
        return whole[0]
    if len(found) > 1:
        common = [end for end in found[0] if all(end in edge for edge in found)]
        return common[0]
    if not found:
        return None
    lesser, greater = found[0]
    return greater if agreeing(shape, left, greater) > agreeing(shape, left, lesser) else lesser


class Asked(Case):
    """How the answers for one row are held against those that are listed."""

    def hold_told(self, shape, lost, left, wanted):
        """told gives what is wanted, for "clash" two stories that leave the row and clash."""
        if wanted != "clash":
            self.same(told(shape, left), wanted)
            return
        with self.assertRaises(TwoWorlds) as caught:
            told(shape, left)
        self.hold_worlds(shape, lost, left, caught.exception.what)
        self.refused(TwoWorlds, caught.exception.what, told, shape, left)

    def hold_worlds(self, shape, lost, left, worlds):
        self.assertIsInstance(worlds, tuple)
        self.assertEqual(len(worlds), 2)
        for story in worlds:
            made_story(shape, story)
            self.same(left_by(shape, story, lost), left)
        self.assertTrue(clash(shape, lost, *worlds))

    def hold(self, shape, lost, left, found, whole):
        """The answers for a row with these edges, or these whole data."""
        if len(whole) == 1:
            self.same(edges(shape, left), ((whole[0], whole[0]),))
        else:
            self.same(edges(shape, left), tuple(sorted(found)))
        self.hold_told(shape, lost, left, told_by_listing(shape, left, tuple(sorted(found)), whole))


class Listing(Asked):
    """Beside a listing of all stories of small shapes, for every loss."""

    def hold_shape(self, shape, step):
        unbroken = unbroken_rows(shape)
        for lost in losses(shape):
            rows, wholes = left_rows(unbroken, lost), whole_rows(shape, lost)
            few = any(len(data) > 1 for data in wholes.values())
            for left, found in list(rows.items())[::step]:
                with self.subTest(shape=shape, left=left):
                    if few:
                        self.refused(TooFew, lost, edges, shape, left)
                        self.refused(TooFew, lost, told, shape, left)
                    else:
                        self.hold(shape, lost, left, tuple(found), wholes.get(left, ()))
            if not few:
                self.hold_others(shape, lost, rows, step)

    def hold_others(self, shape, lost, rows, step):
        """Of all rows that no story leaves with a loss nothing is told."""
        cells = all_cells(shape)
        choices = [(None,) if shelf in lost else cells for shelf in range(len(shape[3]) + shape[2])]
        for left in itertools.islice(itertools.product(*choices), 0, None, step * 3):
            if left not in rows:
                self.same(edges(shape, left), ())
                self.same(told(shape, left), None)

    def test_all_rows_of_small_shapes(self):
        for shape in SMALL:
            self.hold_shape(shape, 1)

    def test_many_rows_of_greater_shapes(self):
        for shape in THINNED:
            self.hold_shape(shape, 11)

    def test_an_end_of_each_story_is_told_if_the_shape_stands(self):
        standing = [shape for shape in SMALL + THINNED if stands(shape)]
        self.assertGreater(len(standing), 3)
        for shape in standing:
            unbroken = unbroken_rows(shape)
            for lost in losses(shape, shape[4]):
                for left, found in left_rows(unbroken, lost).items():
                    data = told(shape, left)
                    self.assertTrue(all(data in edge for edge in found))


class Examples(Case):
    def test_half_came(self):
        left = row_of(1, 0, 2, 4, None)
        self.same(edges(SHAPE, left), ((((3,), (5,)), ((4,), (5,))),))
        self.same(told(SHAPE, left), ((3,), (5,)))

    def test_more_than_half_came(self):
        left = row_of(2, 0, 2, 4, None)
        # Data 1, which is lost, may also have been changed, from 3 to 5: 4, 5 is an end of both.
        self.same(edges(SHAPE, left), ((((3,), (5,)), ((4,), (5,))), (((4,), (3,)), ((4,), (5,)))))
        self.same(told(SHAPE, left), ((4,), (5,)))

    def test_both_data_are_lost(self):
        left = row_of(1, 6, 2, None, None)
        self.same(edges(SHAPE, left), ((((3,), (5,)), ((3,), (5,))),))
        self.same(told(SHAPE, left), ((3,), (5,)))

    def test_the_shape_stands(self):
        self.same(stands(SHAPE), True)

    def test_the_row_of_copies(self):
        shape = (7, 1, 1, ((1,), (1,), (1,)), 1)
        self.same(edges(shape, row_of(0, 3, 0, 3)), ((((0,),), ((3,),)),))
        self.same(told(shape, row_of(0, 3, 0, 3)), ((0,),))

    def test_the_row_of_two_stories(self):
        shape = (7, 1, 3, ((1, 1, 1), (1, 2, 3)), 1)
        left = row_of(0, 2, None, 0, 0)
        found = edges(shape, left)
        self.assertIn((((0,), (0,), (0,)), ((0,), (1,), (0,))), found)
        self.assertIn((((2,), (0,), (0,)), ((2,), (0,), (5,))), found)
        with self.assertRaises(TwoWorlds) as caught:
            told(shape, left)
        one, two = caught.exception.what
        self.assertTrue(clash(shape, (2,), one, two))
        self.same(left_by(shape, one, (2,)), left)


class Wholes(Asked):
    def test_whole_rows_have_one_edge(self):
        numbers = Numbers(3)
        for _ in range(20):
            data = numbers.matrix(2, 1, 7)
            for lost in losses(SHAPE, 2):
                left = behind_loss(right_of(SHAPE, data), lost)
                if lost != (1, 2):
                    self.same(edges(SHAPE, left), ((data, data),))

    def test_a_whole_row_that_a_story_with_other_ends_leaves(self):
        # Behind the loss of data 0 sum 0 alone shows it, so a deed on data 1 may look like other data.
        shape = (7, 2, 2, ((1, 1),), 1)
        left = ((3, 4), None, (1, 2))
        self.same(edges(shape, left), ((((2, 2), (1, 2)), ((2, 2), (1, 2))),))
        with self.assertRaises(TwoWorlds) as caught:
            told(shape, left)
        one, two = caught.exception.what
        self.hold_worlds(shape, (1,), left, (one, two))
        rest, other = (one, two) if at_rest(one) else (two, one)
        self.same(ends(rest), (((2, 2), (1, 2)), ((2, 2), (1, 2))))
        self.assertTrue(disjoint(ends(other), ends(rest)))

    def test_too_few_are_told_whether_or_not_a_story_leaves_the_row(self):
        shape = (7, 1, 2, ((1, 2), (3, 6)), 0)
        for left in (row_of(0, 0, None, None), row_of(0, 1, None, None), row_of(None, 1, None, None)):
            lost = tuple(shelf for shelf, cell in enumerate(left) if cell is None)
            self.refused(TooFew, lost, edges, shape, left)
            self.refused(TooFew, lost, told, shape, left)
        self.refused(TooFew, (0, 1), told, (7, 1, 2, (), 0), (None, None))
        self.refused(TooFew, (0,), told, (7, 1, 1, (), 0), (None,))
        self.refused(TooFew, (1,), told, (7, 1, 1, ((0,),), 0), ((0,), None))

    def test_a_loss_of_nothing_or_of_sums_alone_is_told_always(self):
        numbers = Numbers(5)
        for shape in (SHAPE, (2, 1, 3, ((1, 1, 1),), 0), (5, 2, 4, ((0, 0, 0, 0), (1, 2, 3, 4), (4, 0, 1, 1)), 3)):
            for lost in losses(shape):
                if any(shelf >= len(shape[3]) for shelf in lost):
                    continue
                for _ in range(5):
                    story = some_story(numbers, shape)
                    self.assertIn(told(shape, left_by(shape, story, lost)), ends(story))

    def test_without_sums(self):
        self.same(edges((7, 2, 2, (), 0), ((1, 2), (3, 4))), ((((1, 2), (3, 4)), ((1, 2), (3, 4))),))
        self.same(told((7, 2, 2, (), 0), ((1, 2), (3, 4))), ((1, 2), (3, 4)))


class Several(Asked):
    def test_several_edges_have_an_end_in_common(self):
        # Sum 0 alone is off, by 1: a deed on any of the data may have written it alone.
        shape = (7, 1, 3, ((1, 1, 2), (1, 2, 3), (1, 4, 5)), 0)
        self.same(edges(shape, row_of(1, 0, 0, 0, 0, 0)), (
            (((0,), (0,), (0,)), ((0,), (0,), (4,))),
            (((0,), (0,), (0,)), ((0,), (1,), (0,))),
            (((0,), (0,), (0,)), ((1,), (0,), (0,))),
        ))
        self.same(told(shape, row_of(1, 0, 0, 0, 0, 0)), ((0,), (0,), (0,)))

    def test_the_common_end_may_be_the_greater_one(self):
        shape = (7, 1, 2, ((6, 6), (1, 2), (1, 4)), 0)
        left = row_of(0, 3, 5, 1, 1)
        found = edges(shape, left)
        self.same(found, ((((1,), (1,)), ((1,), (6,))), (((1,), (1,)), ((6,), (1,)))))
        self.same(told(shape, left), ((1,), (1,)))
        # Sum 0 is off by 5, as a deed shows it that makes 1 of 6.
        left = row_of(0, 4, 2, 6, 6)
        self.same(edges(shape, left), ((((1,), (6,)), ((6,), (6,))), (((6,), (1,)), ((6,), (6,)))))
        self.same(told(shape, left), ((6,), (6,)))

    def test_a_lost_cell_and_a_torn_deed_of_it(self):
        left = left_by(SHAPE, (((3,), (5,)), 1, (0,), (0,)), (4,))
        self.same(edges(SHAPE, left), ((((3,), (0,)), ((3,), (5,))), (((3,), (5,)), ((5,), (5,)))))
        self.same(told(SHAPE, left), ((3,), (5,)))
        # With two sums that came a deed that made data 0 from 2 to 3 shows the same.
        left = left_by(SHAPE, (((3,), (5,)), 1, (0,), (0, 1)), (4,))
        self.same(edges(SHAPE, left), ((((2,), (0,)), ((3,), (0,))), (((3,), (0,)), ((3,), (5,)))))
        self.same(told(SHAPE, left), ((3,), (0,)))

    def test_other_marks_than_by_one_line(self):
        # Two numbers of the cells are off in sums that no single deed can both put off so.
        shape = (7, 2, 2, ((1, 1), (1, 2), (1, 4)), 1)
        self.same(edges(shape, ((1, 0), (0, 1), (0, 0), (0, 0), (0, 0))), ())
        self.same(told(shape, ((1, 0), (0, 1), (0, 0), (0, 0), (0, 0))), None)
        self.same(edges(shape, ((1, 0), (1, 0), (0, 0), (0, 0), (0, 0))), ((((0, 0), (0, 0)), ((1, 0), (0, 0))),))
        self.same(told(shape, ((1, 0), (1, 0), (0, 0), (0, 0), (0, 0))), ((0, 0), (0, 0)))
        self.same(told(shape, ((1, 0), (2, 0), (0, 0), (0, 0), (0, 0))), ((0, 0), (0, 0)))
        self.same(told(shape, ((1, 0), (3, 0), (0, 0), (0, 0), (0, 0))), None)


class Great(Asked):
    """Where nothing can be listed."""

    def some_loss(self, numbers, shape, many):
        count = len(shape[3]) + shape[2]
        return tuple(sorted({numbers.below(count) for _ in range(many)}))

    def test_what_any_story_left_is_told(self):
        numbers = Numbers(7)
        for _ in range(60):
            story = some_story(numbers, GREAT)
            lost = self.some_loss(numbers, GREAT, 3)
            left = left_by(GREAT, story, lost)
            found = edges(GREAT, left)
            data = told(GREAT, left)
            self.assertIn(data, ends(story))
            if found[0][0] != found[0][1]:
                self.assertIn(tuple(sorted(ends(story))), found)
            self.assertTrue(all(data in edge for edge in found))
            self.same(found, tuple(sorted(set(found))))

    def test_the_answer_comes_within_a_second(self):
        numbers = Numbers(11)
        noughts = (65521, 32, 6, ((0,) * 6,) * 5, 3)
        ones = (65521, 32, 6, ((1,) * 6,) * 5, 3)
        rows = [left_by(GREAT, some_story(numbers, GREAT), (5, 7, 10)) for _ in range(5)]
        asked = [(GREAT, left) for left in rows]
        asked += [(GREAT, numbers.matrix(11, 32, 65521)), (GREAT, ((0,) * 32,) * 11)]
        asked += [(shape, ((1,) * 32,) * 5 + ((0,) * 32,) * 6) for shape in (noughts, ones)]
        asked += [(ones, ((1,) * 32, (0,) * 32, (1,) * 32, None, None) + (None,) + ((5,) * 32,) * 5)]
        for shape, left in asked:
            for call in (edges, told):
                start = time.monotonic()
                try:
                    call(shape, left)
                except TwoWorlds:
                    pass
                self.assertLess(time.monotonic() - start, 1)

    def test_a_row_that_no_story_leaves(self):
        left = tuple((65520 - shelf,) * 31 + (shelf,) for shelf in range(11))
        self.same(edges(GREAT, left), ())
        self.same(told(GREAT, left), None)

    def test_two_worlds_of_wide_cells(self):
        shape = (65521, 32, 6, GREAT_TABLE[:3], 3)
        numbers = Numbers(13)
        worlds = 0
        for _ in range(10):
            lost = (4, 6, 8)
            left = left_by(shape, some_story(numbers, shape), lost)
            with self.assertRaises(TwoWorlds) as caught:
                told(shape, left)
            self.hold_worlds(shape, lost, left, caught.exception.what)
            worlds += 1
        self.assertEqual(worlds, 10)


class Refusals(Case):
    def test_the_shape_is_asked_first(self):
        for call in (edges, told):
            self.wants_shape(call, row_of(1, 6, 2, 3, 5))
            self.wants_shape(call, None)

    def test_what_is_no_left_row(self):
        for call in (edges, told):
            for left in NO_TUPLES + ((), row_of(1, 6, 2, 3), row_of(1, 6, 2, 3, 5, 0), nested(50), ((1,),) * 9999):
                with self.subTest(call=call, left=left):
                    self.refused(BadCell, -1, call, SHAPE, left)
            for cell in NO_NUMBERS[1:] + ((7,), (0, 0), (), (-1,), (None,), (True,), 0):
                with self.subTest(call=call, cell=cell):
                    if cell != (3,):
                        self.refused(BadCell, 2, call, SHAPE, row_of(1, 6) + (cell,) + row_of(3, 5))

    def test_the_form_is_asked_ahead_of_what_is_too_few(self):
        for call in (edges, told):
            self.refused(BadCell, 4, call, SHAPE, (None, None, None, None, (7,)))
            self.refused(TooFew, (0, 1, 2, 3), call, SHAPE, (None, None, None, None, (6,)))
            self.refused(TooFew, (0, 1, 2, 3, 4), call, SHAPE, (None,) * 5)


if __name__ == "__main__":
    unittest.main()
