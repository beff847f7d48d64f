"""Papers that a shape stands [20]."""

import itertools
import time
import unittest

from sumstand.errors import Clash
from sumstand.judge import first_clash, stands
from sumstand.papers import paper_right, stand_paper
from tests.helpers import Case, NO_NUMBERS, NO_TUPLES, Numbers, SHAPE, WRONG_SHAPES, nested, some_shapes
from tests.listing import losses, rising

PAPER = (
    ((3,), ((1, 0, 6), (0, 1, 6)), ((1, 0, 0),)),
    ((4,), ((1, 0, 5), (0, 1, 3)), ((1, 0, 0),)),
)
CLASH_SHAPE = (7, 1, 3, ((1, 1, 1), (1, 2, 3)), 1)
COPIES = (7, 1, 1, ((1,), (1,), (1,)), 2)
TABLE_11 = (11, 1, 3, ((1, 1, 1), (1, 5, 2), (1, 9, 7)), 1)
WIDE = (257, 32, 4, ((232, 199, 143, 236), (23, 50, 115, 103), (135, 150, 166, 87), (211, 143, 194, 206)), 2)


def product(v, rows, many, p):
    return tuple(sum(a * row[at] for a, row in zip(v, rows)) % p for at in range(many))


def asked(shape):
    c = len(shape[3])
    return tuple(lost for lost in losses(shape, shape[4]) if any(shelf >= c for shelf in lost))


def right_by_products(shape, paper):
    """Whether a paper of the due form is right, as [16] and [20] say it, by trying all factors."""
    p, _, n, table, _ = shape
    c = len(table)
    if tuple(lost for lost, _, _ in paper) != asked(shape):
        return False
    for lost, null, back in paper:
        kept = tuple(j for j in range(c) if j not in lost)
        gone = tuple(shelf - c for shelf in lost if shelf >= c)
        h = tuple(tuple(table[j][y] for y in gone) for j in kept)
        if any(any(product(v, h, len(gone), p)) for v in null):
            return False
        units = tuple(tuple(int(a == b) for b in range(len(gone))) for a in range(len(gone)))
        if tuple(product(w, h, len(gone), p) for w in back) != units:
            return False
        if not rules_hold(shape, kept, gone, null):
            return False
    return True


def rules_hold(shape, kept, gone, null):
    """The second and the third condition of [16], word by word."""
    p, _, n, table, _ = shape
    nought = (0,) * len(kept)
    traces = {}
    for x in range(n):
        for mask in rising(kept):
            trace = tuple(table[j][x] if j in mask else 0 for j in kept)
            traces[x, trace] = tuple(sum(a * b for a, b in zip(v, trace)) % p for v in null)
    whole = {x: tuple(table[j][x] for j in kept) for x in range(n)}
    for (x, trace), image in traces.items():
        if trace != nought and not any(image) and not (x in gone and trace == whole[x]):
            return False
    for ((x, t), vt), ((z, u), vu) in itertools.product(traces.items(), repeat=2):
        for k in range(1, p):
            if any(vt) and any(vu) and vt == tuple(k * number % p for number in vu):
                ones = [nought] + [whole[x]] * (x in gone)
                twos = [nought] + [whole[z]] * (z in gone)
                if not any(
                    all((t[i] - a[i] - k * (u[i] - b[i])) % p == 0 for i in range(len(kept)))
                    for a in ones for b in twos
                ):
                    return False
    return True


def changed(paper, at, part, thing):
    """The paper with another part of the triple at a place."""
    triple = paper[at][:part] + (thing,) + paper[at][part + 1:]
    return paper[:at] + (triple,) + paper[at + 1:]


def with_other_number(paper, p):
    """Papers in which one number of a V or a W is another one."""
    for at, triple in enumerate(paper):
        for part in (1, 2):
            for k, row in enumerate(triple[part]):
                for place, number in enumerate(row):
                    for other in {(number + 1) % p, (number * 3) % p, 0} - {number}:
                        new = row[:place] + (other,) + row[place + 1:]
                        rows = triple[part][:k] + (new,) + triple[part][k + 1:]
                        yield changed(paper, at, part, rows)


def with_other_rows(paper):
    """Papers in which a V or a W has a row less, a row twice or its rows in another order."""
    for at, triple in enumerate(paper):
        for part in (1, 2):
            rows = triple[part]
            for k in range(len(rows)):
                yield changed(paper, at, part, rows[:k] + rows[k + 1:])
                yield changed(paper, at, part, rows + rows[k:k + 1])
            yield changed(paper, at, part, rows[::-1])
            yield changed(paper, at, part, ())


class Examples(Case):
    def test_the_paper_of_the_example(self):
        self.same(stand_paper(SHAPE), PAPER)
        self.same(paper_right(SHAPE, PAPER), True)

    def test_the_two_that_are_not_right(self):
        self.same(paper_right(SHAPE, changed(PAPER, 1, 2, ((2, 0, 0),))), False)
        self.same(paper_right(SHAPE, changed(PAPER, 0, 1, ((0, 0, 0),))), False)

    def test_other_papers_of_the_example(self):
        # Other rows that span the same, and another inverse.
        self.same(paper_right(SHAPE, changed(PAPER, 0, 1, ((2, 0, 5), (1, 1, 5)))), True)
        self.same(paper_right(SHAPE, changed(PAPER, 0, 1, ((1, 0, 6), (0, 1, 6), (0, 0, 0), (1, 1, 5)))), True)
        self.same(paper_right(SHAPE, changed(PAPER, 0, 2, ((0, 1, 0),))), True)
        self.same(paper_right(SHAPE, changed(PAPER, 1, 2, ((0, 0, 2),))), True)

    def test_the_shape_that_does_not_stand(self):
        self.refused(Clash, (2,), stand_paper, CLASH_SHAPE)


class Papers(Case):
    def test_its_own_paper_is_right_or_there_is_a_clash(self):
        stood = 0
        for shape in some_shapes(19, 120):
            found = first_clash(shape)
            with self.subTest(shape=shape):
                if found is None:
                    paper = stand_paper(shape)
                    self.same(paper_right(shape, paper), True)
                    self.same(tuple(part[0] for part in paper), asked(shape))
                    self.same(stand_paper(shape), paper)
                    stood += 1
                else:
                    self.refused(Clash, found[0], stand_paper, shape)
        self.assertGreater(stood, 15)

    def test_no_paper_of_a_shape_that_does_not_stand_is_right(self):
        paper = (((2,), (), ((1, 0),)), ((3,), (), ((1, 0),)), ((4,), (), ((1, 0),)))
        self.same(paper_right(CLASH_SHAPE, paper), False)
        spanning = (((2,), ((1, 6),), ((1, 0),)), ((3,), ((1, 3),), ((1, 0),)), ((4,), ((1, 2),), ((1, 0),)))
        self.same(paper_right(CLASH_SHAPE, spanning), False)

    def test_one_number_or_row_changed(self):
        for shape in (SHAPE, (2, 1, 2, ((1, 0), (0, 1)), 1), COPIES, TABLE_11):
            paper = stand_paper(shape)
            right = wrong = 0
            for other in itertools.chain(with_other_number(paper, shape[0]), with_other_rows(paper)):
                told = right_by_products(shape, other)
                with self.subTest(shape=shape, paper=other):
                    self.assertIs(paper_right(shape, other), told)
                right, wrong = right + told, wrong + (not told)
            self.assertGreater(right, 0)
            self.assertGreater(wrong, 0)

    def test_fewer_rows_of_v(self):
        # Two rows of the three that span all are enough where no two traces look alike by them.
        shape = (101, 1, 2, ((1, 1), (1, 2), (1, 4), (1, 9)), 1)
        paper = stand_paper(shape)
        self.same(len(paper[0][1]), 3)
        numbers = Numbers(29)
        seen = []
        for many in (1, 2, 2, 2, 2, 2, 4):
            v = paper[1][1]
            rows = tuple(product(numbers.row(3, 101), v, 4, 101) for _ in range(many))
            other = changed(paper, 1, 1, rows)
            told = right_by_products(shape, other)
            self.assertIs(paper_right(shape, other), told)
            seen.append((many, told))
            for k in range(3):
                self.same(paper_right(shape, changed(paper, 1, 1, v[:k] + v[k + 1:])), False)
        self.assertIn((2, True), seen)
        self.assertIn((1, False), seen)

    def test_no_row_of_v(self):
        # Nothing is to be shown where the one trace is the whole lost column.
        shape = (7, 1, 1, ((3,),), 1)
        self.same(stand_paper(shape), (((1,), (), ((5,),)),))
        self.same(paper_right(shape, (((1,), (), ((5,),)),)), True)
        self.same(paper_right(shape, (((1,), ((0,),), ((5,),)),)), True)
        self.same(paper_right(shape, (((1,), ((1,),), ((5,),)),)), False)
        self.same(paper_right(shape, (((1,), (), ((1,),)),)), False)
        self.same(paper_right(shape, (((1,), (), ()),)), False)

    def test_losses_changed(self):
        paper = stand_paper(COPIES)
        self.same(paper_right(COPIES, paper), True)
        self.same(tuple(part[0] for part in paper), ((3,), (0, 3), (1, 3), (2, 3)))
        for other in itertools.permutations(paper):
            self.same(paper_right(COPIES, other), other == paper)
        for at, (lost, _, _) in enumerate(paper):
            self.same(paper_right(COPIES, paper[:at] + paper[at + 1:]), False)
            self.same(paper_right(COPIES, paper[:at + 1] + paper[at:]), False)
            for thing in NO_TUPLES + NO_NUMBERS + ((2,), (0, 1), (3, 0), (4,), (0, 3, 3), lost[::-1] + (0,)):
                with self.subTest(at=at, lost=thing):
                    if thing != lost:
                        self.same(paper_right(COPIES, changed(paper, at, 0, thing)), False)

    def test_a_bool_is_no_number(self):
        shape = (7, 1, 1, ((1,), (1,)), 1)
        paper = stand_paper(shape)
        self.same(paper, (((2,), ((1, 6),), ((1, 0),)),))
        self.same(paper_right(shape, (((2,), ((True, 6),), ((1, 0),)),)), False)
        self.same(paper_right(shape, (((2,), ((1, 6),), ((True, 0),)),)), False)
        self.same(paper_right(shape, (((2,), ((1, 6),), ((1, False),)),)), False)
        one = (7, 1, 1, ((1,),), 1)
        self.same(paper_right(one, (((1,), (), ((1,),)),)), True)
        self.same(paper_right(one, (((True,), (), ((1,),)),)), False)

    def test_numbers_are_below_the_prime(self):
        for number in (7, -6, 8, 1 + 7 * 10**500):
            self.same(paper_right(SHAPE, changed(PAPER, 0, 2, ((number, 0, 0),))), False)
            self.same(paper_right(SHAPE, changed(PAPER, 0, 2, ((1, 0, number - number % 7),))), False)
            self.same(paper_right(SHAPE, changed(PAPER, 0, 1, ((number, 0, 6), (0, 1, 6)))), False)

    def test_with_e_0_the_paper_is_empty(self):
        shape = (7, 1, 2, ((0, 0),), 0)
        self.same(stand_paper(shape), ())
        self.same(paper_right(shape, ()), True)
        self.same(paper_right(shape, (((1,), (), ()),)), False)
        self.same(paper_right((7, 1, 2, (), 0), ()), True)
        self.same(paper_right((7, 1, 2, (), 1), ()), False)

    def test_of_several_losses_and_wide_cells(self):
        self.same(stands(WIDE), True)
        paper = stand_paper(WIDE)
        self.same(paper_right(WIDE, paper), True)
        self.same(len(paper), 4 + 22)
        numbers = Numbers(23)
        for _ in range(20):
            at, part = numbers.below(len(paper)), 1 + numbers.below(2)
            rows = paper[at][part]
            k, place = numbers.below(len(rows)), numbers.below(len(rows[0]))
            new = rows[k][:place] + ((rows[k][place] + 1) % 257,) + rows[k][place + 1:]
            self.same(paper_right(WIDE, changed(paper, at, part, rows[:k] + (new,) + rows[k + 1:])), False)


class Judge(Case):
    THINGS = NO_TUPLES + NO_NUMBERS + ((), PAPER[:1], PAPER + PAPER[:1], PAPER[::-1], nested(50), (PAPER,) * 2)

    def test_papers_that_have_not_the_form(self):
        for thing in self.THINGS:
            with self.subTest(thing=thing):
                self.same(paper_right(SHAPE, thing), False)
                for at in (0, 1):
                    self.same(paper_right(SHAPE, PAPER[:at] + (thing,) + PAPER[at + 1:]), False)
                    if thing != (3,):
                        self.same(paper_right(SHAPE, changed(PAPER, at, 0, thing)), False)
                    self.same(paper_right(SHAPE, changed(PAPER, at, 2, thing)), False)
                    if thing != ():
                        self.same(paper_right(SHAPE, changed(PAPER, at, 1, thing)), False)
                    self.same(paper_right(SHAPE, changed(PAPER, at, 1, PAPER[at][1] + (thing,))), False)
                    self.same(paper_right(SHAPE, changed(PAPER, at, 2, (thing,))), False)
                    if thing != 0 or thing is False:
                        self.same(paper_right(SHAPE, changed(PAPER, at, 2, ((1, 0, thing),))), False)

    def test_shapes_that_have_not_the_form(self):
        for thing, _ in WRONG_SHAPES:
            with self.subTest(thing=thing):
                self.same(paper_right(thing, PAPER), False)
                self.same(paper_right(thing, ()), False)
                self.same(paper_right(thing, thing), False)

    def test_10000_parts(self):
        rows = ((1, 0, 6), (0, 1, 6)) * 1200
        start = time.monotonic()
        self.same(paper_right(SHAPE, changed(PAPER, 0, 1, rows)), True)
        self.same(paper_right(SHAPE, changed(PAPER, 0, 1, rows + ((1, 0, 5),))), False)
        self.same(paper_right(SHAPE, changed(PAPER, 0, 2, rows)), False)
        self.same(paper_right(SHAPE, (PAPER[0],) * 500), False)
        self.same(paper_right(SHAPE, changed(PAPER, 0, 1, ((0,) * 9000,))), False)
        self.assertLess(time.monotonic() - start, 2)

    def test_stand_paper_asks_the_shape(self):
        self.wants_shape(stand_paper)


if __name__ == "__main__":
    unittest.main()
