"""Finding tables [22]."""

import time
import unittest

from sumstand.errors import BadNumber, BadShape
from sumstand.finder import finder, table_at
from sumstand.judge import stands
from tests.helpers import Case, NO_NUMBERS

NO_PRIMES = NO_NUMBERS + (-7, -1, 0, 1, 4, 9, 65520, 65522, 65537, 10**999)
NO_DATA_COUNTS = NO_NUMBERS + (-1, 0, 7, 10**999)
NO_SUM_COUNTS = NO_NUMBERS + (-1, 6, 10**999)
NO_LOST_COUNTS = NO_NUMBERS + (-1, 4, 10**999)
NO_TABLE_NUMBERS = NO_NUMBERS + (-1, 1000000001, 10**999)
NO_MANY = NO_NUMBERS + (-1, 1001, 10**999)


def table_told(p, n, c, number):
    """The table with a number, as [22] tells it."""
    x = (number + 1) * 7919 % 2147483647
    found = []
    for _ in range(n * c):
        x = x * 48271 % 2147483647
        found.append(1 + x % (p - 1))
    return tuple(tuple(found[j * n:j * n + n]) for j in range(c))


class TableAt(Case):
    def test_the_example(self):
        self.same(table_at(7, 2, 3, 0), ((6, 6), (3, 2), (3, 6)))

    def test_as_it_is_told(self):
        for p in (2, 3, 7, 257, 65521):
            for n in range(1, 7):
                for c in range(6):
                    for number in (0, 1, 2, 271182, 271183, 999999999, 1000000000):
                        self.same(table_at(p, n, c, number), table_told(p, n, c, number))

    def test_its_numbers_are_from_1_to_below_the_prime(self):
        for p in (2, 3, 5, 11):
            seen = set()
            for number in range(100):
                table = table_at(p, 6, 5, number)
                self.assertEqual([len(row) for row in table], [6] * 5)
                seen.update(entry for row in table for entry in row)
            self.assertEqual(seen, set(range(1, p)))

    def test_no_sum(self):
        self.same(table_at(7, 3, 0, 5), ())

    def test_refusals(self):
        for p in NO_PRIMES:
            self.refused(BadShape, 0, table_at, p, 2, 3, 0)
            self.refused(BadShape, 0, table_at, p, None, None, None)
        for n in NO_DATA_COUNTS:
            self.refused(BadShape, 2, table_at, 7, n, 3, 0)
            self.refused(BadShape, 2, table_at, 7, n, None, None)
        for c in NO_SUM_COUNTS:
            self.refused(BadShape, 3, table_at, 7, 2, c, 0)
            self.refused(BadShape, 3, table_at, 7, 2, c, None)
        for number in NO_TABLE_NUMBERS:
            self.refused(BadNumber, number, table_at, 7, 2, 3, number)


class Finder(Case):
    CALLS = (
        (7, 2, 3, 1, 0, 50),
        (7, 2, 3, 1, 20, 30),
        (11, 3, 3, 1, 0, 200),
        (11, 3, 3, 1, 1000000000, 200),
        (2, 1, 3, 2, 7, 3),
        (3, 2, 2, 1, 0, 40),
        (257, 4, 4, 2, 900, 60),
        (31, 2, 4, 2, 0, 30),
        (5, 3, 3, 0, 4, 2),
        (7, 3, 0, 0, 4, 2),
        (7, 3, 2, 1, 0, 20),
        (7, 1, 0, 1, 0, 20),
    )

    def test_the_first_table_that_stands(self):
        answers = set()
        for p, n, c, e, first, many in self.CALLS:
            standing = [
                number for number in range(first, first + many)
                if stands((p, 1, n, table_told(p, n, c, number), e))
            ]
            found = finder(p, n, c, e, first, many)
            with self.subTest(call=(p, n, c, e, first, many)):
                if standing:
                    self.same(found, (standing[0], table_told(p, n, c, standing[0])))
                else:
                    self.same(found, None)
            answers.add(found is None)
        self.assertEqual(answers, {True, False})

    def test_it_ends_ahead_of_the_first_or_comes_to_it(self):
        number, table = finder(7, 2, 3, 1, 0, 50)
        self.assertGreater(number, 0)
        self.same(finder(7, 2, 3, 1, 0, number), None)
        self.same(finder(7, 2, 3, 1, 0, number + 1), (number, table))
        self.same(finder(7, 2, 3, 1, number, 1), (number, table))

    def test_none_of_no_tables(self):
        self.same(finder(7, 2, 3, 0, 0, 0), None)
        self.same(finder(7, 2, 3, 0, 1000000000, 0), None)

    def test_with_e_0_the_first_one_stands(self):
        self.same(finder(7, 2, 3, 0, 5, 1), (5, table_told(7, 2, 3, 5)))
        self.same(finder(7, 2, 0, 0, 5, 1000), (5, ()))

    def test_the_limits(self):
        self.same(finder(2, 6, 1, 1, 0, 1000), None)
        self.same(finder(65521, 1, 1, 1, 1000000000, 1000), (1000000000, table_told(65521, 1, 1, 1000000000)))

    def test_great_primes_have_such_tables(self):
        start = time.monotonic()
        for n, c, e in ((6, 3, 1), (6, 4, 2), (4, 5, 3)):
            number, table = finder(65521, n, c, e, 0, 100)
            self.same(stands((65521, 32, n, table, e)), True)
            self.same(table, table_told(65521, n, c, number))
        self.assertLess(time.monotonic() - start, 10)

    def test_the_order_of_the_checks(self):
        right = [7, 2, 3, 1, 0, 50]
        wrong = ((0, NO_PRIMES, 0), (1, NO_DATA_COUNTS, 2), (2, NO_SUM_COUNTS, 3), (3, NO_LOST_COUNTS, 4))
        for at, things, index in wrong:
            for thing in things:
                with self.subTest(at=at, thing=thing):
                    self.refused(BadShape, index, finder, *right[:at], thing, *right[at + 1:])
                    self.refused(BadShape, index, finder, *right[:at], thing, *[None] * (5 - at))
        for first in NO_TABLE_NUMBERS:
            self.refused(BadNumber, first, finder, 7, 2, 3, 1, first, 50)
            self.refused(BadNumber, first, finder, 7, 2, 3, 1, first, "many")
        for many in NO_MANY:
            self.refused(BadNumber, many, finder, 7, 2, 3, 1, 0, many)


if __name__ == "__main__":
    unittest.main()
