"""The words of a folder's entries, and back [49]."""

import unittest

from sumstand.things import entries_in, entry_words
from tests.helpers import Case, Numbers
from tests.treemodel import SIGNS, order

EXAMPLE = (("a", 2), ("b_", 3))


class Entries(Case):
    def test_the_example(self):
        self.same(entry_words(EXAMPLE), (1, 0, 2, 2, 1, 36, 3))
        self.same(entries_in((1, 0, 2, 2, 1, 36, 3)), EXAMPLE)
        self.same(entry_words(entries=EXAMPLE), (1, 0, 2, 2, 1, 36, 3))
        self.same(entries_in(words=(1, 0, 2, 2, 1, 36, 3)), EXAMPLE)

    def test_no_entries(self):
        self.same(entry_words(()), ())
        self.same(entries_in(()), ())

    def test_there_and_back(self):
        numbers = Numbers(3)
        for _ in range(100):
            names = {"".join(SIGNS[numbers.below(38)] for _ in range(1 + numbers.below(12))) for _ in range(9)}
            entries = tuple((name, numbers.below(10**6)) for name in sorted(names, key=order))
            self.same(entries_in(entry_words(entries)), entries)

    def test_great_numbers(self):
        self.same(entries_in((1, 0, 10**30)), (("a", 10**30),))
        self.same(entries_in((1, 0, 0)), (("a", 0),))

    def test_lengths(self):
        for length in range(20):
            words = (length,) + (5,) * length + (7,)
            self.same(entries_in(words), (("f" * length, 7),) if 1 <= length <= 12 else None)
        self.same(entries_in((10**30, 1, 2)), None)

    def test_what_is_cut_off(self):
        whole = entry_words(EXAMPLE)
        for many in range(len(whole) + 1):
            due = {0: (), 3: EXAMPLE[:1], 7: EXAMPLE}.get(many)
            self.same(entries_in(whole[:many]), due)
        for more in (0, 1, 5, 13):
            self.same(entries_in(whole + (more,)), None)

    def test_signs(self):
        for number in range(60):
            self.same(entries_in((1, number, 2)), ((SIGNS[number], 2),) if number < 38 else None)
            due = (("a" + SIGNS[number], 2),) if number < 38 else None
            self.same(entries_in((2, 0, number, 2)), due)

    def test_names_that_do_not_ascend(self):
        for first, second, right in (
            ("a", "b", True), ("b", "a", False), ("a", "a", False), ("z", "0", True), ("0", "z", False), ("a", "aa", True),
            ("aa", "a", False), ("ab", "b", True), ("_", "-", True), ("-", "_", False), ("a-", "b", True),
        ):
            entries = ((first, 5), (second, 4))
            self.same(entries_in(entry_words(entries)), entries if right else None)
        # The third name is asked beside the second one.
        entries = (("a", 1), ("c", 2), ("b", 3))
        self.same(entries_in(entry_words(entries)), None)

    def test_many_entries(self):
        entries = tuple((SIGNS[a] + SIGNS[b], a + b) for a in range(38) for b in range(38))
        self.same(entries_in(entry_words(entries)), entries)


if __name__ == "__main__":
    unittest.main()
