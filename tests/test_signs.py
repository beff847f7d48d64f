"""Names, and texts as the numbers of their signs [49]."""

import unittest

from sumstand.signs import is_name, numbers_of, text_of
from tests.helpers import Case, NO_NUMBERS, Numbers, nested

SIGNS = "abcdefghijklmnopqrstuvwxyz0123456789_-/"

NAMES = ("a", "z", "0", "9", "_", "-", "a0_-", "abcdefghijkl", "012345678901", "--", "a" * 12, "-_-", "name", "b_")

NO_NAMES = (
    "", "a" * 13, "abcdefghijklm", "a" * 1000, "A", "Name", "aB", "a b", " a", "a ", " ", "a.b", ".", "..", "/", "/a", "a/",
    "a/b", "a\n", "\n", "a\t", "\u00e4", "\u00df", "\u0131", "\u0430", "\uff41", "\u0661", "\u00b2", "\ud800", "a\u0301", "a+",
    "a,b", "a:b", "a\x00", "\x7f", "%", "~", "[", "`", "{", "@",
)


class Judged(Case):
    def test_names(self):
        for name in NAMES + tuple(SIGNS[:38]):
            self.same(is_name(name), True)
            self.same(is_name(thing=name), True)

    def test_other_texts(self):
        for text in NO_NAMES:
            with self.subTest(text=text):
                self.same(is_name(text), False)

    def test_each_ascii_sign(self):
        for number in range(256):
            sign = chr(number)
            self.same(is_name(sign), sign in SIGNS[:38])
            self.same(is_name("a" + sign), sign in SIGNS[:38])
            self.same(is_name(sign + "a"), sign in SIGNS[:38])

    def test_how_long_it_is(self):
        for many in range(30):
            self.same(is_name("a" * many), 1 <= many <= 12)

    def test_other_values(self):
        for thing in NO_NUMBERS[:3] + (0, 1, -1, 10**999, (), ("a",), ("a", "b"), (("a",),), nested(50), ("a",) * 9999):
            with self.subTest(thing=thing):
                self.same(is_name(thing), False)


class ThereAndBack(Case):
    def test_all_signs(self):
        self.same(numbers_of(SIGNS), tuple(range(39)))
        self.same(text_of(tuple(range(39))), SIGNS)
        for number, sign in enumerate(SIGNS):
            self.same(numbers_of(text=sign), (number,))
            self.same(text_of(numbers=(number,)), sign)

    def test_by_hand(self):
        self.same((numbers_of("az"), numbers_of("09"), numbers_of("_-/")), ((0, 25), (26, 35), (36, 37, 38)))
        self.same(numbers_of("/a/b2"), (38, 0, 38, 1, 28))
        self.same(text_of((38, 0, 38, 1, 28)), "/a/b2")

    def test_no_sign(self):
        self.same(numbers_of(""), ())
        self.same(text_of(()), "")

    def test_any_texts(self):
        numbers = Numbers(3)
        for _ in range(300):
            told = numbers.row(numbers.below(40), 39)
            self.same(numbers_of(text_of(told)), told)

    def test_names_are_ordered_by_their_numbers(self):
        self.same(sorted(["0", "aa", "_", "z", "a", "-", "9"], key=numbers_of), ["a", "aa", "z", "0", "9", "_", "-"])
        self.assertLess(numbers_of("z"), numbers_of("0"))
        self.assertLess(numbers_of("a"), numbers_of("aa"))


if __name__ == "__main__":
    unittest.main()
