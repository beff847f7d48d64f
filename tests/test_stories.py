"""Stories [6], what they leave [7], and clashes [8]."""

import unittest

from sumstand.errors import BadShape, BadShelf, BadStory
from sumstand.stories import at_rest, clash, ends, left_by, made_story
from tests.helpers import Case, NO_LOSSES, NO_NUMBERS, NO_TUPLES, Numbers, SHAPE, nested, some_story
from tests.listing import all_stories, behind_loss, losses, put, right_of, rising

STORY = (((3,), (5,)), 0, (4,), (1, 3))

GREATEST = (65521, 32, 6, tuple(tuple(65520 - 6 * j - x for x in range(6)) for j in range(5)), 3)

SHAPES = (
    SHAPE,
    (2, 1, 1, (), 0),
    (2, 1, 2, ((1, 0), (0, 1)), 1),
    (3, 2, 3, ((1, 2, 0), (1, 1, 1)), 2),
    (7, 3, 1, ((1,), (1,), (1,)), 1),
    GREATEST,
)

NO_CELLS = NO_TUPLES + ((), (0, 0), (7,), (-1,)) + tuple((part,) for part in NO_NUMBERS)
NO_DATA = NO_TUPLES + ((), ((3,),), ((3,), (5,), (6,)), ((3,), (7,)), ((3,), None), nested(50), ((3,),) * 5)
NO_DATA += tuple(((3,), cell) for cell in NO_CELLS)
NO_CAME = NO_TUPLES + ((-1,), (4,), (5,), (0, 4), (3, 4), (0, 0), (1, 0), (3, 0), (0, 1, 2, 3, 4), (0, 1, 2, 3, 3))
NO_CAME += tuple((part,) for part in NO_NUMBERS) + ((0, True), (False, 3), (0, "1"), nested(50))

# Each value with the index that BadStory tells of it.
WRONG_STORIES = (
    [(thing, -1) for thing in NO_TUPLES + ((), (STORY,), STORY[:3], STORY + ((),), nested(50), (0,) * 9999)]
    + [((data,) + STORY[1:], 0) for data in NO_DATA]
    + [((STORY[0], x) + STORY[2:], 1) for x in NO_NUMBERS + (-1, 2, 3, 10**999)]
    + [(STORY[:2] + (cell, STORY[3]), 2) for cell in NO_CELLS]
    + [(STORY[:3] + (came,), 3) for came in NO_CAME]
)


class MadeStory(Case):
    def test_stories_are_returned(self):
        numbers = Numbers(3)
        for shape in SHAPES:
            for _ in range(10):
                story = some_story(numbers, shape)
                self.same(made_story(shape, story), story)

    def test_nothing_all_and_each_part_of_the_writes_may_have_come(self):
        for x in (0, 1):
            for came in rising((0, 1, 2, 3 + x)):
                self.same(made_story(SHAPE, (STORY[0], x, (4,), came)), (STORY[0], x, (4,), came))

    def test_the_cell_may_be_the_old_one(self):
        self.same(made_story(SHAPE, (((3,), (5,)), 1, (5,), (4,))), (((3,), (5,)), 1, (5,), (4,)))

    def test_the_shelf_of_other_data_cannot_have_come(self):
        self.refused(BadStory, 3, made_story, SHAPE, (((3,), (5,)), 0, (4,), (4,)))
        self.refused(BadStory, 3, made_story, SHAPE, (((3,), (5,)), 1, (4,), (3,)))
        self.refused(BadStory, 3, made_story, SHAPE, (((3,), (5,)), 1, (4,), (3, 4)))
        self.refused(BadStory, 3, made_story, (7, 1, 2, (), 1), (((3,), (5,)), 1, (4,), (0,)))

    def test_wrong_stories(self):
        for story, index in WRONG_STORIES:
            with self.subTest(story=story):
                self.refused(BadStory, index, made_story, SHAPE, story)

    def test_the_first_wrong_part_is_told(self):
        self.refused(BadStory, 0, made_story, SHAPE, (None, None, None, None))
        self.refused(BadStory, 1, made_story, SHAPE, (STORY[0], None, None, None))
        self.refused(BadStory, 2, made_story, SHAPE, (STORY[0], 0, None, None))
        self.refused(BadStory, 3, made_story, SHAPE, (STORY[0], 0, (6,), None))

    def test_the_shape_is_asked_first(self):
        self.wants_shape(made_story, STORY)
        self.wants_shape(made_story, None)


class Ends(Case):
    def test_of_the_example(self):
        self.same(ends(STORY), (((3,), (5,)), ((4,), (5,))))
        self.same(at_rest(STORY), False)

    def test_of_a_story_at_rest(self):
        story = (((3,), (5,)), 1, (5,), (0, 4))
        self.same(ends(story), (((3,), (5,)), ((3,), (5,))))
        self.same(at_rest(story), True)

    def test_whatever_came(self):
        for came in rising((0, 1, 2, 4)):
            self.same(ends((((3,), (5,)), 1, (0,), came)), (((3,), (5,)), ((3,), (0,))))
            self.same(at_rest((((3,), (5,)), 1, (0,), came)), False)
            self.same(at_rest((((3,), (5,)), 1, (5,), came)), True)

    def test_of_all_stories(self):
        for shape in SHAPES[1:3]:
            for story in all_stories(shape):
                data, x, cell, _ = story
                self.same(ends(story), (data, put(data, x, cell)))
                self.same(at_rest(story), data == put(data, x, cell))


class LeftBy(Case):
    def test_the_examples(self):
        self.same(left_by(SHAPE, STORY, (4,)), ((1,), (0,), (2,), (4,), None))
        self.same(left_by(SHAPE, (((3,), (5,)), 0, (4,), (0, 1, 3)), (4,)), ((2,), (0,), (2,), (4,), None))

    def test_the_stories_that_both_leave_the_same(self):
        shape = (7, 1, 3, ((1, 1, 1), (1, 2, 3)), 1)
        left = ((0,), (2,), None, (0,), (0,))
        self.same(left_by(shape, (((0,), (0,), (0,)), 1, (1,), (1,)), (2,)), left)
        self.same(left_by(shape, (((2,), (0,), (0,)), 2, (5,), (0,)), (2,)), left)

    def test_nothing_or_all_came(self):
        ahead, behind = right_of(SHAPE, ((3,), (5,))), right_of(SHAPE, ((4,), (5,)))
        for lost in losses(SHAPE):
            self.same(left_by(SHAPE, STORY[:3] + ((),), lost), behind_loss(ahead, lost))
            self.same(left_by(SHAPE, STORY[:3] + ((0, 1, 2, 3),), lost), behind_loss(behind, lost))

    def test_lost_shelves_may_have_come(self):
        self.same(left_by(SHAPE, STORY, (1, 3)), ((1,), None, (2,), None, (5,)))
        self.same(left_by(SHAPE, STORY, (0, 1, 2, 3, 4)), (None,) * 5)

    def test_of_all_stories(self):
        for shape in SHAPES[1:3]:
            for story in all_stories(shape):
                data, x, cell, came = story
                ahead, behind = right_of(shape, data), right_of(shape, put(data, x, cell))
                row = tuple(behind[k] if k in came else ahead[k] for k in range(len(ahead)))
                for lost in losses(shape):
                    self.same(left_by(shape, story, lost), behind_loss(row, lost))

    def test_of_wide_cells_and_the_greatest_shape(self):
        numbers = Numbers(5)
        for shape in SHAPES[3:]:
            for _ in range(5):
                story = some_story(numbers, shape)
                data, x, cell, came = story
                ahead, behind = right_of(shape, data), right_of(shape, put(data, x, cell))
                row = tuple(behind[k] if k in came else ahead[k] for k in range(len(ahead)))
                for lost in ((), (0,), (0, len(row) - 1)):
                    self.same(left_by(shape, story, lost), behind_loss(row, lost))

    def test_the_order_of_the_checks(self):
        self.wants_shape(left_by, STORY, (4,))
        self.wants_shape(left_by, None, None)
        for story, index in WRONG_STORIES:
            with self.subTest(story=story):
                self.refused(BadStory, index, left_by, SHAPE, story, (4,))
                self.refused(BadStory, index, left_by, SHAPE, story, None)
        for lost in NO_LOSSES:
            with self.subTest(lost=lost):
                self.refused(BadShelf, -1, left_by, SHAPE, STORY, lost)
        self.refused(BadShape, -1, left_by, None, None, None)


class Clash(Case):
    CLASH_SHAPE = (7, 1, 3, ((1, 1, 1), (1, 2, 3)), 1)
    ONE = (((0,), (0,), (0,)), 1, (1,), (1,))
    TWO = (((2,), (0,), (0,)), 2, (5,), (0,))

    def test_the_example(self):
        self.same(clash(self.CLASH_SHAPE, (2,), self.ONE, self.TWO), True)
        self.same(clash(self.CLASH_SHAPE, (2,), self.TWO, self.ONE), True)

    def test_not_if_they_leave_other_rows(self):
        self.same(clash(self.CLASH_SHAPE, (), self.ONE, self.TWO), False)
        self.same(clash(self.CLASH_SHAPE, (3,), self.ONE, self.TWO), False)
        self.same(clash(self.CLASH_SHAPE, (2, 3, 4), self.ONE, self.TWO), True)

    def test_not_if_they_share_an_end(self):
        data, other, third = ((3,), (5,)), ((4,), (5,)), ((4,), (6,))
        lost = (0, 1, 2, 3, 4)
        there = (data, 0, (4,), ())
        for story in (there, (other, 0, (3,), ()), (other, 1, (6,), ()), (data, 1, (0,), ()), (data, 0, (3,), ())):
            self.same(clash(SHAPE, lost, there, story), False)
            self.same(clash(SHAPE, lost, story, there), False)
        # Ahead of one deed and behind the other one are ends alike.
        self.same(clash(SHAPE, lost, (third, 1, (5,), ()), there), False)
        self.same(clash(SHAPE, lost, there, (third, 0, (0,), ())), True)

    def test_all_pairs_of_stories(self):
        shape = (2, 1, 2, ((1, 1),), 1)
        stories = list(all_stories(shape))
        lefts = {lost: [left_by(shape, story, lost) for story in stories] for lost in losses(shape)}
        for lost, rows in lefts.items():
            for one, left in zip(stories, rows):
                for two, other in zip(stories, rows):
                    told = left == other and not set(ends(one)) & set(ends(two))
                    self.assertIs(clash(shape, lost, one, two), told)

    def test_what_has_not_the_form(self):
        shape = self.CLASH_SHAPE
        for thing in NO_TUPLES + NO_NUMBERS + (nested(50), SHAPE[:4], (0,) * 9999, (SHAPE,) * 5):
            with self.subTest(thing=thing):
                self.same(clash(thing, (2,), self.ONE, self.TWO), False)
                self.same(clash(shape, (2,), thing, self.TWO), False)
                self.same(clash(shape, (2,), self.ONE, thing), False)
                self.same(clash(thing, thing, thing, thing), False)
        for lost in NO_LOSSES:
            with self.subTest(lost=lost):
                self.same(clash(shape, lost, self.ONE, self.TWO), False)
        for story, _ in WRONG_STORIES:
            with self.subTest(story=story):
                self.same(clash(SHAPE, (0, 1, 2, 3, 4), story, (((0,), (0,)), 0, (1,), ())), False)
                self.same(clash(SHAPE, (0, 1, 2, 3, 4), (((0,), (0,)), 0, (1,), ()), story), False)

    def test_a_bool_is_no_number(self):
        self.same(clash(self.CLASH_SHAPE, (2,), self.ONE[:1] + (True,) + self.ONE[2:], self.TWO), False)
        self.same(clash(self.CLASH_SHAPE, (2,), self.ONE[:3] + ((True,),), self.TWO), False)
        self.same(clash(self.CLASH_SHAPE, (2,), self.ONE[:2] + ((True,), (1,)), self.TWO), False)
        self.same(clash(SHAPE, (0, 1, 2, 3, 4), STORY, (((0,), (0,)), 0, (1,), ())), True)
        self.same(clash(SHAPE, (0, True, 2, 3, 4), STORY, (((0,), (0,)), 0, (1,), ())), False)


if __name__ == "__main__":
    unittest.main()
