"""How contents lie in cells [48], how many cells they have, and how many of them are new [54]."""

import unittest

from sumstand.making import content_cells, content_need
from tests.helpers import Case, Numbers
from tests.stores import filled_store
from tests.treemodel import content_shape


def need(wide, old, new):
    """How many cells are new, from both contents laid out."""
    before, behind = content_shape(wide, old, ""), content_shape(wide, new, "")
    return sum(1 for place, made in behind.items() if before.get(place) != made)


def edge_sizes(wide):
    room = wide - 1
    return (0, 1, room - 1, room, room + 1, room * room - 1, room * room, room * room + 1, room**3, room**3 + 1)


def with_hole(words, start, many):
    return words[:start] + (0,) * many + words[start + many:]


class Cells(Case):
    def test_the_examples(self):
        self.same([content_cells(8, words) for words in ((5,), (0,) * 7, (0,) * 7 + (5,))], [1, 0, 2])
        self.same(content_cells(words=(5,), wide=8), 1)

    def test_sizes_at_the_edges(self):
        for wide in (8, 9, 32):
            for size in edge_sizes(wide):
                words = tuple(1 + at % 200 for at in range(size))
                self.same(content_cells(wide, words), len(content_shape(wide, words, "")))
                self.same(content_cells(wide, (0,) * size), 0)
                self.same(content_need(wide, words, words), 0)
                self.same(content_need(wide, (), words), content_cells(wide, words))
                self.same(content_need(wide, words, ()), 0)

    def test_by_hand(self):
        self.same([content_cells(8, (1,) * size) for size in (0, 1, 7, 8, 14, 15, 49, 50)], [0, 1, 1, 3, 3, 4, 8, 11])
        # A hole beneath an INNER, and one of a whole INNER.
        self.same(content_cells(8, with_hole((1,) * 49, 7, 7)), 7)
        self.same(content_cells(8, with_hole((1,) * 98, 49, 49)), 9)
        self.same(content_cells(8, with_hole((1,) * 98, 0, 49)), 9)
        self.same(content_cells(8, (0,) * 97 + (1,)), 3)

    def test_runs_of_noughts_at_each_level(self):
        words = tuple(1 + at % 200 for at in range(400))
        for start in (0, 1, 6, 7, 14, 48, 49, 98, 343, 350):
            for many in (1, 7, 14, 49, 50, 98, 343):
                hole = with_hole(words, start, min(many, 400 - start))
                self.same(content_cells(8, hole), len(content_shape(8, hole, "")))
                self.same(content_need(8, words, hole), need(8, words, hole))
                self.same(content_need(8, hole, words), need(8, hole, words))

    def test_great_words(self):
        self.same(content_cells(8, (10**30, 0, 0, 0, 0, 0, 0, 1)), 3)


class Need(Case):
    def test_the_examples(self):
        for new, due in (((5, 0), 0), ((5, 6), 1), ((5, 0, 0, 0, 0, 0, 0, 6), 2)):
            self.same(content_need(8, (5,), new), due)
        self.same(content_need(new=(5, 6), old=(5,), wide=8), 1)

    def test_longer_and_shorter(self):
        words = tuple(1 + at % 200 for at in range(400))
        for size in (0, 1, 6, 7, 8, 14, 48, 49, 50, 98, 343, 344, 400):
            for other in (0, 1, 7, 8, 49, 50, 342, 343, 344, 400):
                self.same(content_need(8, words[:size], words[:other]), need(8, words[:size], words[:other]))
                self.same(content_need(8, words[:size], words[:other] + (0,) * 60), need(8, words[:size], words[:other] + (0,) * 60))

    def test_one_word_is_one_cell_of_each_level(self):
        words = tuple(1 + at % 200 for at in range(400))
        for at in (0, 6, 7, 200, 399):
            self.same(content_need(8, words, words[:at] + (255,) + words[at + 1:]), 4)
        # A level less: the cells of the lower levels stay.
        self.same(content_need(8, words, words[:343]), 0)
        # A level more: nine LEAFs, two INNERs above them, one above these, and the uppermost one.
        self.same(content_need(8, words[:343], words), 9 + 2 + 1 + 1)

    def test_any_contents(self):
        numbers = Numbers(3)
        for _ in range(300):
            wide = 8 + numbers.below(3)
            one = tuple(numbers.below(2) * numbers.below(3) for _ in range(numbers.below(80)))
            two = list(one) + [0] * numbers.below(60) * numbers.below(2)
            for _ in range(numbers.below(4)):
                if two:
                    two[numbers.below(len(two))] = numbers.below(3)
            two = tuple(two[:numbers.below(len(two) + 1)] if numbers.below(3) == 0 else two)
            self.same(content_need(wide, one, two), need(wide, one, two))
            self.same(content_cells(wide, two), len(content_shape(wide, two, "")))


class LaidOut(Case):
    """The cells that a store has for contents, word for word."""

    def content(self, words, many=120):
        store = filled_store(many, ("make_file", "/f"), ("write", "/f", 0, words))
        _, things, _, _, _, _ = store.look(0)[:6]
        thing = store.look(store.look(things)[3])
        self.same(thing[:4], (2, 1, 1, len(words)))
        return store, thing[4], thing[5]

    def test_noughts_alone(self):
        for size in (1, 7, 8, 49, 50, 256):
            _, pointer, depth = self.content((0,) * size)
            self.same((pointer, depth), (0, {1: 1, 7: 1, 8: 2, 49: 2, 50: 3, 256: 3}[size]))
        self.same(self.content(())[1:], (0, 0))

    def test_the_example(self):
        store, pointer, depth = self.content((0,) * 7 + (5,))
        inner = store.look(pointer)
        self.same(depth, 2)
        self.same(inner, (3, 0, inner[2], 0, 0, 0, 0, 0))
        self.same(store.look(inner[2]), (4, 5, 0, 0, 0, 0, 0, 0))

    def test_one_leaf(self):
        store, pointer, depth = self.content((5, 0, 256))
        self.same((depth, store.look(pointer)), (1, (4, 5, 0, 256, 0, 0, 0, 0)))

    def test_three_levels(self):
        store, pointer, depth = self.content((1,) + (0,) * 55 + (2,))
        self.same(depth, 3)
        top = store.look(pointer)
        self.same(top, (3, top[1], top[2], 0, 0, 0, 0, 0))
        first, second = store.look(top[1]), store.look(top[2])
        self.same(first, (3, first[1], 0, 0, 0, 0, 0, 0))
        self.same(second, (3, 0, second[2], 0, 0, 0, 0, 0))
        self.same(store.look(first[1]), (4, 1, 0, 0, 0, 0, 0, 0))
        self.same(store.look(second[2]), (4, 2, 0, 0, 0, 0, 0, 0))


if __name__ == "__main__":
    unittest.main()
