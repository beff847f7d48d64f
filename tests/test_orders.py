"""Too few sums: two stories clash in any order of the writes [21]."""

import itertools
import unittest

from sumstand.errors import BadOrder, NotSo
from sumstand.orders import order_clash
from sumstand.stories import clash, left_by, made_story
from tests.helpers import Case, NO_NUMBERS, NO_TUPLES, Numbers, SHAPE, nested

FEW = (7, 1, 3, ((1, 1, 1), (1, 2, 3)), 1)
ORDERS = ((2, 0, 1), (0, 3, 1), (1, 0, 4))

NO_ORDERS = NO_TUPLES + ((), (2,), (0, 1), (0, 1, 3), (0, 1, 4), (0, 0, 2), (0, 1, 2, 2), (0, 1, 2, 3), nested(50))
NO_ORDERS += tuple((0, 1, part) for part in NO_NUMBERS) + ((0, True, 2), (False, 1, 2), (-1, 1, 2), (0, 1, 10**999))


def orders_of(numbers, c, n):
    """An order of each of the data that looks as if by chance."""
    found = []
    for x in range(n):
        left = list(range(c)) + [c + x]
        order = []
        while left:
            order.append(left.pop(numbers.below(len(left))))
        found.append(tuple(order))
    return tuple(found)


class Clashes(Case):
    def hold(self, shape, orders):
        """order_clash tells two stories that clash, each with the first so many writes of its order."""
        found = order_clash(shape, orders)
        self.assertIsInstance(found, tuple)
        lost, one, two = found
        with self.subTest(shape=shape, orders=orders):
            self.assertLessEqual(len(lost), shape[4])
            self.assertTrue(clash(shape, lost, one, two))
            self.same(left_by(shape, one, lost), left_by(shape, two, lost))
            for story in (one, two):
                made_story(shape, story)
                order = orders[story[1]]
                self.assertIn(story[3], [tuple(sorted(order[:many])) for many in range(len(order) + 1)])
        self.same(order_clash(shape, orders), found)

    def test_the_example(self):
        shape = (7, 1, 3, (), 1)
        orders = ((0,), (1,), (2,))
        self.hold(shape, orders)
        told = ((0,), (((0,), (0,), (0,)), 0, (0,), ()), (((1,), (0,), (0,)), 0, (1,), ()))
        self.assertTrue(clash(shape, *told))

    def test_all_sizes(self):
        numbers = Numbers(3)
        for n in range(3, 7):
            for e in range(1, 4):
                for c in range(e + 2):
                    for p in (2, 3, 7, 257, 65521):
                        for wide in (1, 3, 32):
                            shape = (p, wide, n, numbers.matrix(c, n, p), e)
                            self.hold(shape, orders_of(numbers, c, n))

    def test_all_orders_of_small_shapes(self):
        for table in ((), ((1, 1, 1),), ((1, 0, 1),), ((0, 0, 0),)):
            c = len(table)
            each = [tuple(itertools.permutations((*range(c), c + x))) for x in range(3)]
            for orders in itertools.product(*each):
                self.hold((2, 1, 3, table, 1), orders)
        for table in (((1, 1, 1), (1, 2, 3)), ((1, 1, 1), (0, 1, 2)), ((1, 0, 0), (0, 1, 0))):
            each = [tuple(itertools.permutations((0, 1, 2 + x))) for x in range(3)]
            for orders in itertools.product(*each):
                self.hold((5, 1, 3, table, 1), orders)

    def test_all_tables_of_the_prime_2(self):
        numbers = Numbers(5)
        for c in (1, 2):
            for table in itertools.product(itertools.product((0, 1), repeat=3), repeat=c):
                for _ in range(4):
                    self.hold((2, 2, 3, table, 1), orders_of(numbers, c, 3))

    def test_noughts_and_columns_alike(self):
        numbers = Numbers(7)
        for e in (1, 2, 3):
            c = e + 1
            for row in ((0, 0, 0, 0), (1, 1, 1, 1), (1, 2, 4, 8), (0, 1, 0, 10)):
                for _ in range(5):
                    self.hold((11, 2, 4, (row,) * c, e), orders_of(numbers, c, 4))

    def test_the_same_order_for_all(self):
        # The data ahead of all sums, behind all of them, and between them.
        numbers = Numbers(11)
        for e in (1, 2, 3):
            c = e + 1
            for place in range(c + 1):
                for sums in (tuple(range(c)), tuple(range(c))[::-1]):
                    orders = tuple(sums[:place] + (c + x,) + sums[place:] for x in range(5))
                    for p in (2, 11, 65521):
                        self.hold((p, 1, 5, numbers.matrix(c, 5, p), e), orders)


class Refusals(Case):
    def test_the_shape_is_asked_first(self):
        self.wants_shape(order_clash, ORDERS)
        self.wants_shape(order_clash, None)

    def test_what_has_enough_sums(self):
        rows = ((1, 1, 1), (1, 2, 4), (1, 3, 2), (1, 4, 5), (1, 5, 3))
        wrong = [SHAPE, (7, 1, 2, (), 1), (7, 1, 1, (), 3), (7, 1, 3, rows[:2], 0), (7, 1, 3, (), 0)]
        wrong += [(7, 1, 3, rows[:e + 2], e) for e in (1, 2, 3)] + [(7, 1, 3, rows, 2)]
        for shape in wrong:
            for orders in (ORDERS, None, (), ((0,),)):
                with self.subTest(shape=shape, orders=orders):
                    self.refused(NotSo, 0, order_clash, shape, orders)

    def test_what_is_no_tuple_of_n(self):
        for orders in NO_TUPLES + ((), ORDERS[:2], ORDERS + ORDERS[:1], nested(50), (ORDERS,), (0,) * 9999):
            with self.subTest(orders=orders):
                self.refused(BadOrder, -1, order_clash, FEW, orders)

    def test_what_is_no_order(self):
        for order in NO_ORDERS:
            with self.subTest(order=order):
                self.refused(BadOrder, 0, order_clash, FEW, (order,) + ORDERS[1:])
                self.refused(BadOrder, 0, order_clash, FEW, (order,) * 3)
        for x in (1, 2):
            for order in (None, (0, 1), (0, 1, 2), (0, 1, 7 - x), (0, 1, True), ()):
                with self.subTest(x=x, order=order):
                    self.refused(BadOrder, x, order_clash, FEW, ORDERS[:x] + (order,) + ORDERS[x + 1:])
        self.refused(BadOrder, 1, order_clash, FEW, (ORDERS[0], ORDERS[0], None))

    def test_a_bool_is_no_shelf(self):
        self.refused(BadOrder, 0, order_clash, (7, 1, 3, (), 1), ((False,), (1,), (2,)))
        self.refused(BadOrder, 1, order_clash, (7, 1, 3, (), 1), ((0,), (True,), (2,)))


if __name__ == "__main__":
    unittest.main()
