"""Numbers below a prime [13] and matrices [14]."""

import itertools
import unittest

from sumstand.fields import combined, inverse, is_prime, left_inverse, left_null, solved
from tests.helpers import Case, NO_NUMBERS, Numbers

GREATEST = 65521


def product_of(row, matrix, many, p):
    """The sum of the rows of the matrix, each times its number of the row."""
    return tuple(sum(factor * line[k] for factor, line in zip(row, matrix)) % p for k in range(many))


def every_row(many, p):
    return itertools.product(range(p), repeat=many)


def made_up(row, others, many, p):
    """Whether the row is a sum of multiples of the others."""
    return any(product_of(v, others, many, p) == row for v in every_row(len(others), p))


def first_free_rows(matrix, many, p):
    taken = []
    for place, row in enumerate(matrix):
        if not made_up(row, [matrix[k] for k in taken], many, p):
            taken.append(place)
    return taken


def every_matrix(rows, many, p):
    return itertools.product(tuple(every_row(many, p)), repeat=rows)


def small_matrices():
    """Triples of a matrix, its columns and a prime: all very small ones, and some others."""
    for rows, many in itertools.product(range(4), range(4)):
        if rows * many <= 6:
            yield from ((matrix, many, 2) for matrix in every_matrix(rows, many, 2))
    for rows, many in itertools.product(range(3), range(3)):
        yield from ((matrix, many, 3) for matrix in every_matrix(rows, many, 3))
    numbers = Numbers(17)
    for rows, many, p in itertools.product(range(5), range(4), (2, 3, 5)):
        for _ in range(6):
            matrix = numbers.matrix(rows, many, p)
            yield matrix, many, p
            # A nought row, and a row that others make up, somewhere among the others.
            if rows > 1:
                middle = matrix[:1] + ((0,) * many,) + matrix[2:]
                yield middle, many, p
                yield matrix[:-1] + (tuple(2 * number % p for number in matrix[0]),), many, p
                yield tuple((0,) * (many > 0) + row[1:] for row in matrix), many, p


class Primes(Case):
    def test_all_numbers_up_to_beyond_the_limit(self):
        prime = [False, False] + [True] * 65600
        for k in range(2, 257):
            for multiple in range(2 * k, len(prime), k):
                prime[multiple] = False
        for k in range(-10, 65600):
            self.assertIs(is_prime(k), k >= 2 and k <= GREATEST and prime[k], k)

    def test_edges(self):
        for p in (2, 3, 5, 7, 251, 257, 65519, 65521):
            self.assertIs(is_prime(p), True, p)
        for k in (-2, -1, 0, 1, 4, 6, 9, 15, 25, 63001, 251 * 257, 241 * 271, 65520, 65522, 65523, 65537):
            self.assertIs(is_prime(k), False, k)

    def test_numbers_far_away(self):
        for k in (10**999, -10**999, 2**61 - 1, 257 * 257, -7):
            self.assertIs(is_prime(k), False)

    def test_what_is_no_number(self):
        for thing in NO_NUMBERS + ("7", (7,), (2, 3)):
            with self.subTest(thing=thing):
                self.assertIs(is_prime(thing), False)


class Inverses(Case):
    def test_the_example(self):
        self.same(inverse(3, 7), 5)

    def test_all_numbers_below_small_primes(self):
        for p in (2, 3, 5, 7, 11, 101, 257):
            for a in range(1, p):
                b = inverse(a, p)
                self.assertIs(b.__class__, int)
                self.assertTrue(0 <= b < p)
                self.assertEqual(a * b % p, 1)

    def test_the_greatest_prime(self):
        for a in [*range(1, 300), *range(65221, GREATEST), 255, 256, 32760, 32761]:
            self.assertEqual(a * inverse(a, GREATEST) % GREATEST, 1)
            self.assertTrue(0 <= inverse(a, GREATEST) < GREATEST)
        self.same(inverse(1, GREATEST), 1)
        self.same(inverse(65520, GREATEST), 65520)
        self.same(inverse(2, GREATEST), 32761)

    def test_any_other_number(self):
        self.same(inverse(10, 7), 5)
        self.same(inverse(-4, 7), 5)
        self.same(inverse(-1, 2), 1)
        self.same(inverse(10**999 + 3, 2), 1)
        for p in (2, 7, 257, GREATEST):
            for a in (-3 * p - 1, -p - 1, -1, p + 1, 5 * p + 1, 10**999 * p - 1, -10**999 * p + 1):
                self.assertEqual(a * inverse(a, p) % p, 1)
                self.assertTrue(0 <= inverse(a, p) < p)


class Combined(Case):
    def test_by_hand(self):
        self.same(combined((1, 2, 3), 2, (4, 5, 6), 7), (2, 5, 1))
        self.same(combined((1, 2, 3), 0, (4, 5, 6), 7), (1, 2, 3))
        self.same(combined((1, 2, 3), 1, (6, 5, 4), 7), (0, 0, 0))
        self.same(combined((0, 0), 6, (6, 1), 7), (1, 6))
        self.same(combined((6,), 1, (1,), 7), (0,))
        self.same(combined((1, 0), 1, (1, 1), 2), (0, 1))
        self.same(combined((65520,), 65520, (65520,), GREATEST), (0,))

    def test_of_no_numbers(self):
        self.same(combined((), 3, (), 7), ())

    def test_the_rows_stay(self):
        row, other = (1, 2), (3, 4)
        combined(row, 5, other, 7)
        self.same((row, other), ((1, 2), (3, 4)))


class LeftNull(Case):
    def looks_right(self, matrix, many, p):
        found = left_null(matrix, many, p)
        self.assertIs(found.__class__, tuple)
        leads = []
        for row in found:
            self.assertIs(row.__class__, tuple)
            self.assertEqual(len(row), len(matrix))
            self.assertTrue(all(number.__class__ is int and 0 <= number < p for number in row))
            self.assertEqual(product_of(row, matrix, many, p), (0,) * many)
            leads.append(next(place for place, number in enumerate(row) if number != 0))
        self.assertEqual(leads, sorted(set(leads)))
        for k, place in enumerate(leads):
            self.assertEqual([row[place] for row in found], [int(k == at) for at in range(len(found))])
        return found

    def test_the_examples(self):
        self.same(left_null(((1,), (2,), (4,)), 1, 7), ((1, 0, 5), (0, 1, 3)))
        self.same(left_null(((), ()), 0, 7), ((1, 0), (0, 1)))

    def test_the_examples_of_papers(self):
        self.same(left_null(((1,), (1,), (1,)), 1, 7), ((1, 0, 6), (0, 1, 6)))

    def test_without_rows(self):
        for many in range(4):
            self.same(left_null((), many, 7), ())

    def test_without_columns(self):
        self.same(left_null(((),), 0, 2), ((1,),))
        self.same(left_null(((),) * 3, 0, 5), ((1, 0, 0), (0, 1, 0), (0, 0, 1)))

    def test_only_the_nought_row(self):
        self.same(left_null(((3,),), 1, 7), ())
        self.same(left_null(((1, 2), (3, 4)), 2, 7), ())
        self.same(left_null(((0, 1, 0), (1, 0, 0)), 3, 2), ())

    def test_columns_of_noughts(self):
        self.same(left_null(((0,), (0,)), 1, 7), ((1, 0), (0, 1)))
        self.same(left_null(((0, 1), (0, 2)), 2, 7), ((1, 3),))
        self.same(left_null(((0,), (3,), (0,)), 1, 7), ((1, 0, 0), (0, 0, 1)))

    def test_rows_that_others_make_up(self):
        self.same(left_null(((1, 2), (2, 4), (3, 6)), 2, 7), ((1, 0, 2), (0, 1, 4)))
        self.same(left_null(((1, 0), (0, 1), (1, 1)), 2, 7), ((1, 1, 6),))
        self.same(left_null(((1, 0), (1, 0), (0, 1)), 2, 2), ((1, 1, 0),))

    def test_it_spans_all_there_are(self):
        for matrix, many, p in small_matrices():
            found = self.looks_right(matrix, many, p)
            nought = (0,) * many
            there = sum(product_of(v, matrix, many, p) == nought for v in every_row(len(matrix), p))
            self.assertEqual(p ** len(found), there, (matrix, many, p))

    def test_the_greatest_prime(self):
        matrix = tuple((1, k, k * k % GREATEST) for k in (1, 2, 300, 65520, 40000))
        self.assertEqual(len(self.looks_right(matrix, 3, GREATEST)), 2)


class LeftInverse(Case):
    def looks_right(self, found, matrix, taken, p):
        many = len(taken)
        self.assertIs(found.__class__, tuple)
        self.assertEqual(len(found), many)
        for k, row in enumerate(found):
            self.assertIs(row.__class__, tuple)
            self.assertEqual(len(row), len(matrix))
            self.assertTrue(all(number.__class__ is int and 0 <= number < p for number in row))
            self.assertTrue(all(number == 0 for place, number in enumerate(row) if place not in taken))
            self.assertEqual(product_of(row, matrix, many, p), tuple(int(k == at) for at in range(many)))

    def test_the_examples(self):
        self.same(left_inverse(((1,), (2,), (4,)), 1, 7), ((1, 0, 0),))
        self.same(left_inverse((), 1, 7), None)

    def test_the_first_free_rows_are_taken(self):
        self.same(left_inverse(((0,), (2,), (4,)), 1, 7), ((0, 4, 0),))
        self.same(left_inverse(((3,), (1,)), 1, 7), ((5, 0),))
        self.same(left_inverse(((1, 1), (2, 2), (0, 1), (1, 0)), 2, 7), ((1, 0, 6, 0), (0, 0, 1, 0)))
        self.same(left_inverse(((0, 1), (1, 0)), 2, 2), ((0, 1), (1, 0)))

    def test_without_columns(self):
        self.same(left_inverse((), 0, 7), ())
        self.same(left_inverse(((), ()), 0, 7), ())

    def test_without_rows(self):
        for many in range(1, 4):
            self.same(left_inverse((), many, 2), None)

    def test_too_few_free_rows(self):
        self.same(left_inverse(((0,), (0,)), 1, 7), None)
        self.same(left_inverse(((1, 2),), 2, 7), None)
        self.same(left_inverse(((1, 2), (2, 4), (3, 6)), 2, 7), None)
        self.same(left_inverse(((0, 1), (0, 2), (0, 0)), 2, 7), None)

    def test_as_it_is_told(self):
        for matrix, many, p in small_matrices():
            taken = first_free_rows(matrix, many, p)
            if len(taken) < many:
                self.same(left_inverse(matrix, many, p), None)
            else:
                self.looks_right(left_inverse(matrix, many, p), matrix, taken, p)

    def test_the_greatest_prime(self):
        matrix = tuple((1, k, k * k % GREATEST) for k in (65520, 2, 300, 1, 40000))
        self.looks_right(left_inverse(matrix, 3, GREATEST), matrix, [0, 1, 2], GREATEST)
        matrix = matrix[:1] * 2 + matrix[1:]
        self.looks_right(left_inverse(matrix, 3, GREATEST), matrix, [0, 2, 3], GREATEST)


class Solved(Case):
    def test_the_examples(self):
        self.same(solved(((1,), (2,), (4,)), 1, (5, 3, 6), 7), (5,))
        self.same(solved(((1,), (2,), (4,)), 1, (5, 3, 5), 7), None)

    def test_by_hand(self):
        self.same(solved(((1, 1), (1, 2)), 2, (3, 5), 7), (1, 2))
        self.same(solved(((0, 1), (1, 0)), 2, (3, 5), 7), (5, 3))
        self.same(solved(((0, 1), (0, 0), (1, 0)), 2, (3, 0, 5), 7), (5, 3))
        self.same(solved(((0, 1), (0, 0), (1, 0)), 2, (3, 1, 5), 7), None)
        self.same(solved(((1,),), 1, (0,), 2), (0,))

    def test_more_than_one(self):
        self.same(solved(((1, 1),), 2, (3,), 7), None)
        self.same(solved(((0,),), 1, (0,), 7), None)
        self.same(solved(((1, 2), (2, 4)), 2, (3, 6), 7), None)

    def test_without_rows(self):
        self.same(solved((), 0, (), 7), ())
        for many in range(1, 4):
            self.same(solved((), many, (), 7), None)

    def test_without_columns(self):
        self.same(solved(((), ()), 0, (0, 0), 7), ())
        self.same(solved(((), ()), 0, (0, 3), 7), None)
        self.same(solved(((),), 0, (1,), 2), None)

    def test_as_it_is_told(self):
        numbers = Numbers(23)
        for matrix, many, p in small_matrices():
            every = list(every_row(many, p))
            turned = tuple(tuple(row[k] for row in matrix) for k in range(many))
            made = product_of(every[numbers.below(len(every))], turned, len(matrix), p)
            other = numbers.row(len(matrix), p)
            for right in (made, other, (0,) * len(matrix)):
                there = [g for g in every if product_of(g, turned, len(matrix), p) == right]
                self.same(solved(matrix, many, right, p), there[0] if len(there) == 1 else None)

    def test_the_greatest_prime(self):
        matrix = tuple((1, k, k * k % GREATEST) for k in (65520, 2, 300, 1, 40000))
        g = (65520, 12345, 54321)
        right = tuple(sum(a * b for a, b in zip(row, g)) % GREATEST for row in matrix)
        self.same(solved(matrix, 3, right, GREATEST), g)
        self.same(solved(matrix, 3, right[:4] + ((right[4] + 1) % GREATEST,), GREATEST), None)


if __name__ == "__main__":
    unittest.main()
