"""Scripts of deeds, stops, losses, replacements, fills, trusts, scrubs, joins and leavings ([0.3] b, c).

Beside them stands a plain table of the data that each row may tell: one, or the two sides of a deed that was
stopped, until the row is whole again.
"""

import unittest

from sumstand.batches import deed, do, stopped
from sumstand.errors import NoNew, NotLost, Refused, TooManyLost
from sumstand.filling import fill, trust
from sumstand.growth import blank, join, leave
from sumstand.scrub import looks, scrub
from sumstand.shelves import Array, is_whole, told_data
from tests.arrays import COPIES, Refusing, part_of_great, seen, shelf_numbers, unkept
from tests.helpers import GREAT, GREAT_TABLE, Numbers
from tests.listing import put, right_of, shelves

WORDS = (
    "deed", "deed", "torn deed", "lose", "replace", "fill", "torn fill", "trust", "scrub", "torn scrub",
    "new", "blank", "join", "leave",
)


class Script:
    """An array with the table of what its rows may tell, and how often each step was done or refused."""

    def __init__(self, case, seed, shape, rows, growing):
        self.case = case
        self.numbers = Numbers(seed)
        self.array = Array(shape, rows)
        self.may = [{((0,) * shape[1],) * shape[2]} for _ in range(rows)]
        self.growing = growing
        self.done = {}

    def cell(self):
        p, wide, _, _, _ = self.array.shape
        return self.numbers.row(wide, p) if self.numbers.below(4) else (0,) * wide

    def cells(self):
        return tuple(self.cell() for _ in range(self.array.rows))

    def stop(self, code):
        """Do a part of some code."""
        many = self.numbers.below(len(code) + 1)
        torn = code[many] if many < len(code) else ()
        came = tuple(index for index in range(len(torn)) if self.numbers.below(2))
        stopped(self.array, code, many, came)

    def step(self):
        word = WORDS[self.numbers.below(len(WORDS))]
        try:
            self.do_step(word)
            self.done[word] = self.done.get(word, 0) + 1
        except Refused as refused:
            key = refused.__class__.__name__
            self.done[key] = self.done.get(key, 0) + 1

    def do_step(self, word):
        array, numbers = self.array, self.numbers
        if word.endswith("deed"):
            self.do_deed(word)
        elif word == "lose":
            array.lose(numbers.below(shelf_numbers(array)))
        elif word == "replace":
            array.replace(numbers.below(shelves(array.shape)), self.cells())
        elif word == "fill":
            do(array, fill(array))
        elif word == "torn fill":
            self.stop(fill(array))
        elif word == "trust":
            trust(array)
        elif word == "scrub":
            do(array, scrub(array))
        elif word == "torn scrub":
            self.stop(scrub(array))
        elif word == "blank":
            do(array, blank(array))
        else:
            self.grow(word)

    def grow(self, word):
        array = self.array
        if not self.growing:
            return
        if word == "new":
            array.new(tuple(row[array.shape[2]] for row in GREAT_TABLE[:len(array.shape[3])]), self.cells())
        elif word == "join":
            join(array)
            nought = (0,) * array.shape[1]
            self.may = [{data + (nought,) for data in told} for told in self.may]
        else:
            leave(array)
            self.may = [{data[:-1] for data in told} for told in self.may]

    def do_deed(self, word):
        array, numbers = self.array, self.numbers
        row, x, cell = numbers.below(array.rows), numbers.below(array.shape[2]), self.cell()
        code = deed(array, row, x, cell)
        ahead = told_data(array, row)
        if word == "deed":
            do(array, code)
            self.may[row] = {put(ahead, x, cell)}
            return
        # A stop falls into one deed of a row; a torn row is not torn once more ahead of its mend.
        if is_whole(array, row):
            self.stop(code)
            self.may[row] = {ahead, put(ahead, x, cell)}

    def hold(self):
        """Each row tells what it may, and one thing alone from now on if it is whole."""
        array = self.array
        told = [told_data(array, row) for row in range(array.rows)]
        for row, look in enumerate(looks(array)):
            self.case.assertIn(told[row], self.may[row])
            if look == "whole":
                self.may[row] = {told[row]}
                due = right_of(array.shape, told[row])
                kept = [shelf for shelf in range(len(due)) if array.state(shelf) == "kept"]
                self.case.assertTrue(all(array.cell(row, shelf) == due[shelf] for shelf in kept))
        self.case.assertLessEqual(len(unkept(array)), array.shape[4])


class Scripts(Refusing):
    def run_script(self, seed, shape, rows, growing, many):
        script = Script(self, seed, shape, rows, growing)
        for _ in range(many):
            script.step()
            script.hold()
        return script

    def test_scripts(self):
        done = {}
        for seed in range(4):
            for shape in (COPIES, COPIES[:4] + (2,), (7, 1, 2, ((1, 1), (1, 2), (1, 4)), 1)):
                for word, many in self.run_script(seed, shape, 2, False, 150).done.items():
                    done[word] = done.get(word, 0) + many
        for word in set(WORDS) | {"TooManyLost", "NotLost", "Unlike", "Torn"}:
            with self.subTest(word=word):
                self.assertTrue(word in done or word in ("blank", "join"))

    def test_scripts_of_arrays_that_grow(self):
        done = {}
        for seed in range(6):
            shape = part_of_great(1, 1 + seed % 3, 3 + seed % 3)
            for word, many in self.run_script(seed, shape, 2, True, 250).done.items():
                done[word] = done.get(word, 0) + many
        for word in set(WORDS) | {"New", "NoNew", "NotBlank", "OnlyOne", "NotKept"}:
            with self.subTest(word=word):
                self.assertIn(word, done)

    def test_equal_scripts_do_the_same(self):
        shape = part_of_great(2, 2, 4)
        one, two = (self.run_script(5, shape, 2, True, 80) for _ in range(2))
        self.same(seen(one.array), seen(two.array))
        self.same(one.done, two.done)

    def test_of_the_greatest_shape(self):
        script = self.run_script(7, GREAT, 3, False, 60)
        self.assertGreater(len(script.done), 5)

    def test_what_is_refused_changes_nothing(self):
        array = Array(COPIES, 2)
        self.changes_nothing(array, NotLost, 0, array.replace, 0, ((0,), (0,)))
        array.lose(1)
        self.changes_nothing(array, TooManyLost, 2, array.lose, 2)
        self.changes_nothing(array, NoNew, 0, join, array)


if __name__ == "__main__":
    unittest.main()
