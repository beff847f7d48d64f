"""How deep contents lie [48]."""

import unittest

from sumstand.contents import least_depth
from tests.helpers import Case


class Depths(Case):
    def test_by_hand(self):
        self.same([least_depth(8, size) for size in (0, 1, 7, 8, 49, 50, 343, 344)], [0, 1, 1, 2, 2, 3, 3, 4])
        self.same([least_depth(32, size) for size in (0, 1, 31, 32, 961, 962, 29791, 29792, 65520)], [0, 1, 1, 2, 2, 3, 3, 4, 4])
        self.same(least_depth(8, 65520), 6)
        self.same(least_depth(size=10, wide=9), 2)

    def test_beside_its_rule(self):
        for wide in range(8, 33):
            powers = [(wide - 1) ** d for d in range(1, 7)]
            sizes = {0, 1, 2, 65520} | {power + more for power in powers for more in (-1, 0, 1)}
            for size in sorted(sizes):
                if size > 65520:
                    continue
                due = 0 if size == 0 else min(d for d in range(1, 8) if (wide - 1) ** d >= size)
                with self.subTest(wide=wide, size=size):
                    self.same(least_depth(wide, size), due)

    def test_all_sizes_of_narrow_cells(self):
        due = 0
        for size in range(65521):
            if size in (1, 8, 50, 344, 2402, 16808):
                due += 1
            self.assertEqual(least_depth(8, size), due)

    def test_great_sizes(self):
        self.same(least_depth(8, 7**300), 300)
        self.same(least_depth(8, 7**300 + 1), 301)


if __name__ == "__main__":
    unittest.main()
