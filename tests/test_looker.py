"""The looker [77], its walk [78], and what is asked of whole trees [79]."""

import unittest

from sumstand.filestore import lay_store
from sumstand.looker import first_fault
from sumstand.shelves import Array
from tests.helpers import Case, Numbers
from tests.lookmodel import listed_fault
from tests.stores import COPIES, Drawn, ONE, TWO, bare, do_deed, empty, filled_store, model_of
from tests.treemodel import ModelRefused, order

# A live tree with a folder "/", a file "a" of two words and a signpost "b"; a snapshot "s" of an empty tree.
CELLS = (
    (1, 2, 1, 9, 1, 4, 0, 0),
    (2, 2, 1, 6, 3, 1, 0, 0),
    (3, 0, 1, 4, 5, 0, 0, 0),
    (4, 1, 0, 2, 1, 1, 3, 0),
    (2, 1, 1, 2, 6, 1, 0, 0),
    (2, 3, 1, 2, 7, 1, 0, 0),
    (4, 7, 8, 0, 0, 0, 0, 0),
    (4, 38, 0, 0, 0, 0, 0, 0),
    (9, 9, 9, 9, 9, 9, 9, 9),
    (4, 1, 18, 10, 1, 0, 0, 0),
    (3, 0, 11, 0, 0, 0, 0, 0),
    (2, 2, 1, 0, 0, 0, 0, 0),
    (0, 0, 0, 0, 0, 0, 0, 0),
    (0, 0, 0, 0, 0, 0, 0, 0),
)


def cell(*words):
    return words + (0,) * (8 - len(words))


def changed(cells, *changes):
    """The cells with others at some addresses, or with other words at pairs of an address and a place."""
    found = list(cells)
    for where, what in changes:
        if isinstance(where, tuple):
            address, place = where
            found[address] = found[address][:place] + (what,) + found[address][place + 1:]
        else:
            found[where] = cell(*what)
    return tuple(found)


def leaf(text):
    return (4,) + tuple(order(text))


class Faults(Case):
    def fault(self, cells, due, many=None):
        """The first fault of the cells, as it is due and as the model of the looker has it."""
        many = len(cells) if many is None else many
        look = cells.__getitem__
        self.same(first_fault(look, many), due)
        self.same(first_fault(many=many, look=look), due)
        self.same(listed_fault(look, many), due)

    def faults(self, *rows):
        for row in rows:
            with self.subTest(row=row):
                self.fault(changed(CELLS, *row[:-1]), row[-1])

    def test_the_cells_are_sound(self):
        self.fault(CELLS, None)
        self.fault(CELLS[:12], None)
        # Cells that the walk does not come to are never faults.
        for junk in ((1, 2, 1), (2, 9, 9), (3, 12, 12), (4,), (10**30,) * 8):
            self.fault(changed(CELLS, (8, junk), (12, junk), (13, junk)), None)

    def test_top(self):
        top = (0, "top")
        self.faults(
            (((0, 0), 0), top), (((0, 0), 2), top), (((0, 0), 10**30), top), (((0, 6), 1), top), (((0, 7), 1), top),
            (((0, 4), 0), top), (((0, 4), 2), top), (((0, 5), 8), top), (((0, 5), 0), top), (((0, 5), 10**30), top),
            (((0, 5), 0), ((0, 4), 0), top), (((0, 1), 0), top), (((0, 1), 14), top), (((0, 1), 10**30), top),
            (((0, 2), 0), top), (((0, 2), 3), top), (((0, 2), 10**30), top),
        )
        # Without snapshots the pointer is 0, too.
        self.fault(changed(CELLS, (0, (1, 2, 1))), None)
        self.fault(changed(CELLS, (0, (1, 2, 1, 9))), top)
        # With 14 cells a depth of two is let, F being 7, with 7 it is not.
        self.fault(changed(CELLS, ((0, 2), 2)), (2, "shape"))
        self.fault(changed(CELLS, (0, (1, 2, 2)))[:7], top)

    def test_kind(self):
        for address, others in ((2, (0, 1, 2, 4, 5)), (1, (1, 3, 4)), (3, (0, 2, 3)), (4, (0, 3)), (5, (0, 1)), (6, (3, 2)), (7, (0,))):
            for kind in others + (10**30,):
                self.fault(changed(CELLS, ((address, 0), kind)), (address, "kind"))
        for address in (9, 10, 11):
            self.fault(changed(CELLS, ((address, 0), 5)), (address, "kind"))
        # An INNER where a LEAF is due by the depth, and a LEAF where an INNER is.
        long = changed(CELLS, ((4, 3), 8), ((4, 5), 2))
        self.fault(long, (6, "kind"))
        self.fault(changed(long, (6, (3, 12, 13)), (12, leaf("aab")), (13, leaf("b"))), None)
        self.fault(changed(long, (6, (3, 12, 13)), (12, (3, 1)), (13, leaf("b"))), (12, "kind"))

    def test_shape_of_contents(self):
        self.faults(
            ((6, (4,)), (6, "shape")), ((3, (4,)), (3, "shape")), ((7, (4,)), (7, "shape")), ((9, (4,)), (9, "shape")),
            (((6, 3), 1), (6, "shape")), (((6, 7), 1), (6, "shape")), (((3, 7), 1), (3, "shape")), (((9, 5), 1), (9, "shape")),
            (((7, 7), 10**30), (7, "shape")),
        )
        long = changed(CELLS, ((4, 3), 8), ((4, 5), 2), (6, (3, 12, 13)), (12, (4, 1)), (13, (4, 1)))
        self.fault(long, None)
        self.fault(changed(long, (6, (3,))), (6, "shape"))
        self.fault(changed(long, (6, (3, 0, 0, 13))), (6, "shape"))
        self.fault(changed(long, (6, (3, 12, 0, 10**30))), (6, "shape"))
        self.fault(changed(long, (6, (3, 12))), None)
        self.fault(changed(long, (6, (3, 0, 13))), None)
        self.fault(changed(long, (13, (4, 0, 1))), (13, "shape"))
        self.fault(changed(long, (12, (4, 0, 1))), None)
        self.fault(changed(long, (12, (4,))), (12, "shape"))

    def test_shape_of_inners(self):
        self.faults(((2, (3,)), (2, "shape")), ((10, (3,)), (10, "shape")), (((2, 1), 12), (2, "shape")), (((10, 1), 12), (10, "shape")))
        # With seven addresses there is no number beneath the fourth pointer of a depth above 1; here it is 8 to 13.
        two = changed(CELLS, ((0, 2), 2), ((0, 1), 12), (12, (3, 2, 13)), (13, (3, 8)), (8, (2, 1, 1)))
        self.fault(two, (8, "count"))
        self.fault(changed(two, (12, (3, 2, 0, 13))), (12, "shape"))
        self.fault(changed(two, (12, (3, 2, 0, 0, 0, 0, 0, 10**30))), (12, "shape"))
        self.fault(changed(two, (13, (3, 0, 0, 0, 0, 0, 0, 8))), (8, "count"))
        self.fault(changed(two, (13, (3, 0, 0, 0, 0, 0, 0, 8)))[:13] + (CELLS[13],), (13, "kind"))
        # At the lowest INNER a number that is many or more is none; at depth 1 with six cells that is place 6.
        small = ((1, 2, 1, 0, 0, 0, 0, 0), cell(2, 2, 1), cell(3, 0, 1), cell(), cell(), cell())
        self.fault(small, None)
        self.fault(changed(small, ((2, 6), 3), (3, (2, 1, 0))), (3, "count"))
        self.fault(changed(small, ((2, 7), 3), (3, (2, 1, 0))), (2, "shape"))

    def test_shape_of_things(self):
        self.faults(
            (((4, 1), 0), (4, "shape")), (((4, 1), 4), (4, "shape")), (((4, 1), 10**30), (4, "shape")),
            (((4, 5), 0), (4, "shape")), (((4, 5), 2), (4, "shape")), (((4, 3), 8), (4, "shape")),
            (((4, 3), 0), (4, "shape")), (((4, 3), 0), ((4, 5), 0), (4, "shape")), (((4, 6), 1), (4, "shape")),
            (((5, 6), 1), (5, "shape")), (((4, 7), 1), (4, "shape")), (((1, 7), 1), (1, "shape")), (((11, 4), 12), (11, "shape")),
            (((11, 3), 10**30), (11, "shape")),
        )
        self.fault(changed(CELLS, (4, (2, 1, 1))), None)
        self.fault(changed(CELLS, (4, (2, 1, 1, 7, 0, 1))), None)
        self.fault(changed(CELLS, (4, (2, 1, 1, 10**30, 0, 36))), None)
        self.fault(changed(CELLS, (4, (2, 1, 1, 10**30, 0, 35))), (4, "shape"))

    def test_pointers(self):
        self.faults(
            (((0, 3), 14), (0, "pointer")), (((0, 3), 10**30), (0, "pointer")), (((1, 4), 14), (1, "pointer")),
            (((4, 4), 14), (4, "pointer")), (((5, 4), 10**30), (5, "pointer")), (((2, 3), 14), (2, "pointer")),
            (((10, 2), 14), (10, "pointer")),
            # Led to already, by a pointer of the same tree: a THING, a content, and the topmost cell itself.
            (((2, 3), 1), (2, "pointer")), (((2, 4), 4), (2, "pointer")), (((4, 4), 3), (4, "pointer")),
            (((5, 4), 6), (5, "pointer")), (((4, 4), 2), (4, "pointer")), (((2, 3), 2), (2, "pointer")),
            (((10, 2), 10), (10, "pointer")), (((4, 4), 4), (4, "pointer")),
        )
        # Of two trees both may lead to one cell.
        self.fault(changed(CELLS, (9, (4, 1, 18, 2, 1))), None)
        self.fault(changed(CELLS, ((10, 2), 1)), (1, "count"))
        # An INNER that leads to itself, and to one LEAF twice.
        long = changed(CELLS, ((4, 3), 8), ((4, 5), 2), (6, (3, 12, 13)), (12, (4, 1)), (13, (4, 1)))
        self.fault(changed(long, (6, (3, 6, 13))), (6, "pointer"))
        self.fault(changed(long, (6, (3, 12, 12))), (6, "pointer"))
        self.fault(changed(long, (6, (3, 12, 4))), (6, "pointer"))

    def test_entries_of_folders(self):
        for words in (
            (1, 0, 2, 1, 0, 3), (1, 1, 2, 1, 0, 3), (1, 0, 2, 2, 1, 3), (13, 0, 2, 1, 1, 3), (0, 0, 2, 1, 1, 3),
            (1, 38, 2, 1, 1, 3), (1, 10**30, 2, 1, 1, 3), (1, 0, 0, 1, 1, 3), (1, 0, 14, 1, 1, 3), (1, 0, 10**30, 1, 1, 3),
            (1, 0, 2, 1, 1, 14), (3, 0, 2, 1, 1, 3), (5, 0, 2, 1, 1, 3), (10**30, 0, 2, 1, 1, 3), (1, 0, 2, 0, 1, 3),
        ):
            self.fault(changed(CELLS, (3, (4,) + words)), (1, "entries"))
        self.fault(changed(CELLS, (3, (4, 4, 0, 2, 1, 1, 3))), (4, "count"))
        self.fault(changed(CELLS, (3, (4, 1, 0, 2, 1, 37, 3))), None)
        # A word more that is 0, and no words at all where there should be some.
        self.fault(changed(CELLS, ((1, 3), 7)), (1, "entries"))
        self.fault(changed(CELLS, ((1, 4), 0)), (1, "entries"))
        self.fault(changed(CELLS, ((1, 3), 10**30), ((1, 5), 36), ((1, 4), 0)), (1, "entries"))
        self.fault(changed(CELLS, (11, (2, 2, 1, 3, 12, 1)), (12, (4, 1, 0, 14))), (11, "entries"))

    def test_entries_of_signposts(self):
        for words in ((0, 38), (38, 38), (1,), (38, 39), (38, 10**30), (39, 0), (38, 0, 38), (37, 38)):
            size = len(words)
            self.fault(changed(CELLS, (7, (4,) + words), ((5, 3), size)), (5, "entries"))
        for words in ((38,), (38, 0), (38, 37), (38, 0, 38, 0), (38, 0, 0, 0, 0, 0, 0)):
            self.fault(changed(CELLS, (7, (4,) + words), ((5, 3), len(words))), None)
        self.fault(changed(CELLS, (5, (2, 3, 1))), (5, "entries"))
        self.fault(changed(CELLS, (5, (2, 3, 1, 2, 0, 1))), (5, "entries"))
        self.fault(changed(CELLS, (5, (2, 3, 1, 10**30, 0, 36))), (5, "entries"))

    def test_the_longest_signpost(self):
        for names, due in ((20, None), (21, "entries")):
            store = filled_store(200, ("signpost", "/" + "/".join(["a"] * 20), "/s"), p=65521)
            cells = [store.look(a) for a in range(200)]
            thing = next(a for a in range(200) if cells[a][:2] == (2, 3))
            if names == 21:
                # A name more, in the last LEAF.
                last = next(a for a in range(200) if cells[a] == cell(4, 0, 38, 0, 38))
                cells[last] = cell(4, 0, 38, 0, 38, 0, 38)
                cells[thing] = cells[thing][:3] + (42,) + cells[thing][4:]
            self.fault(tuple(cells), (thing, due) if due else None)

    def test_signposts_of_as_many_signs_as_there_may_be(self):
        text = "/" + "/".join(["a" * 12] * 20)
        store = filled_store(200, ("signpost", text, "/s"), p=65521)
        cells = tuple(store.look(a) for a in range(200))
        self.fault(cells, None)
        # One sign more: behind the size of 260 there lies one in the last LEAF, and 260 = 37 * 7 + 1.
        thing = next(a for a in range(200) if cells[a][:2] == (2, 3))
        self.same(cells[thing][3], 260)
        self.fault(changed(cells, ((thing, 3), 261)), (thing, "entries"))

    def test_trees_whose_topmost_cells_lie_at_the_first_and_the_last_address(self):
        for first, last in ((1, 5), (5, 1)):
            cells = {0: cell(1, first, 1, 2, 1, 4), 2: cell(4, 1, 18, last, 1), 3: cell(2, 2, 1), 4: cell(2, 2, 1)}
            cells.update({first: cell(3, 0, 3), last: cell(3, 0, 4)})
            self.fault(tuple(cells[a] for a in range(6)), None)
            self.fault(tuple(cells[a] for a in range(6)), (0, "top") if first == 5 else (0, "entries"), many=5)

    def test_entries_of_snapshots(self):
        wrong = (0, "entries")
        self.faults(
            ((9, (4, 0, 18, 10, 1)), wrong), ((9, (4, 13, 18, 10, 1)), wrong), ((9, (4, 2, 18, 10, 1)), wrong),
            ((9, (4, 1, 38, 10, 1)), wrong), ((9, (4, 1, 18, 0, 1)), wrong), ((9, (4, 1, 18, 14, 1)), wrong),
            ((9, (4, 1, 18, 10**30, 1)), wrong), ((9, (4, 1, 18, 10, 0)), wrong), ((9, (4, 1, 18, 10, 3)), wrong),
            ((9, (4, 1, 18, 10, 10**30)), wrong), (((0, 5), 5), wrong), (((0, 5), 3), ((9, 4), 0), wrong), (((0, 3), 0), wrong),
            ((9, (4, 1, 10**30, 10, 1)), wrong),
        )
        two = changed(CELLS, ((0, 4), 2), ((0, 5), 8), ((0, 3), 8), (8, (3, 9, 12)), (9, (4, 1, 18, 10, 1, 1, 19, 2)), (12, (4, 1)))
        self.fault(two, None)
        self.fault(changed(two, (9, (4, 1, 18, 10, 1, 1, 18, 2))), wrong)
        self.fault(changed(two, (9, (4, 1, 19, 10, 1, 1, 18, 2))), wrong)
        self.fault(changed(two, (9, (4, 1, 18, 10, 1, 1, 19, 0))), wrong)
        self.fault(changed(two, (8, (3, 9))), wrong)
        # The first snapshot by name is looked at ahead of the second one.
        self.fault(changed(two, (10, (9,)), (2, (9,))), (2, "kind"))
        self.fault(changed(two, (9, (4, 1, 18, 11, 1, 1, 19, 12))), (11, "kind"))
        self.fault(changed(two, (9, (4, 1, 18, 12, 1, 1, 19, 11))), (12, "kind"))

    def test_a_deeper_tree_of_a_snapshot(self):
        self.fault(changed(CELLS, (9, (4, 1, 18, 12, 2)), (12, (3, 10))), (12, "shape"))
        self.fault(changed(CELLS, (9, (4, 1, 18, 10, 2))), (11, "kind"))

    def test_shape_of_a_tree_that_is_too_deep(self):
        self.fault(changed(CELLS, ((0, 1), 12), ((0, 2), 2), (12, (3, 2))), (12, "shape"))
        # Ahead of what counts tell.
        self.fault(changed(CELLS, ((0, 1), 12), ((0, 2), 2), (12, (3, 2)), ((4, 2), 9)), (12, "shape"))

    def test_count(self):
        self.faults(
            # No thing 1.
            (((2, 2), 0), (0, "count")), ((10, (3, 0, 0, 11)), (0, "count")),
            # An entry to a number without a THING.
            (((3, 3), 7), (1, "count")), (((2, 3), 0), (1, "count")),
            # The thing 1 is no folder, or is told to have other names than one.
            ((11, (2, 1, 1)), (11, "count")), (((1, 2), 0), (1, "count")), (((1, 2), 2), (1, "count")), (((1, 2), 10**30), (1, "count")),
            # Other names than entries, or none.
            (((4, 2), 2), (4, "count")), (((4, 2), 0), (4, "count")), (((5, 2), 10**30), (5, "count")),
            (((3, 3), 3), ((5, 2), 2), (4, "count")), (((3, 3), 3), ((5, 2), 2), ((4, 2), 0), (4, "count")),
            (((3, 6), 2), ((4, 2), 2), (5, "count")), (((3, 6), 2), ((4, 2), 1), (4, "count")),
        )
        # A file with two names.
        self.fault(changed(CELLS, ((3, 6), 2), ((4, 2), 2), ((2, 4), 0)), None)
        # By number, whatever the addresses are.
        self.fault(changed(CELLS, (2, (3, 0, 1, 5, 4)), ((4, 2), 9), ((5, 2), 9)), (5, "count"))

    def test_ring(self):
        # The folders 2 and 3, of which 2 has an entry "a".
        deep = changed(
            CELLS, (4, (2, 2, 1, 3, 6, 1)), (6, (4, 1, 0, 4)), (5, (2, 2, 1)), (2, (3, 0, 1, 4, 5, 12)), (12, (2, 2, 1)),
        )
        self.fault(deep, None)
        # The entry of 2 leads to thing 1, which counts one name whatever leads to it; and to 3, which has two then.
        self.fault(changed(deep, (6, (4, 1, 0, 1)), ((2, 5), 0)), (1, "ring"))
        self.fault(changed(deep, (6, (4, 1, 0, 3)), ((2, 5), 0), ((5, 2), 2)), (5, "ring"))
        # 2 leads to 3 and 3 to 2, and "/" to neither; or 2 to itself.
        ring = changed(
            deep, (1, (2, 2, 1)), (6, (4, 1, 0, 3)), ((2, 5), 0), (5, (2, 2, 1, 3, 7, 1)), (7, (4, 1, 0, 2)),
        )
        self.fault(ring, (4, "ring"))
        self.fault(changed(deep, (3, (4, 1, 1, 3)), ((1, 3), 3), (6, (4, 1, 0, 2)), ((2, 5), 0)), (4, "ring"))
        # A file with two names is in no ring, and by number 3 comes behind 2.
        self.fault(changed(ring, ((2, 3), 5), ((2, 4), 4)), (5, "ring"))

    def test_limit(self):
        self.fault(changed(CELLS, ((1, 6), 3)), None)
        self.fault(changed(CELLS, ((1, 6), 2)), (1, "limit"))
        self.fault(changed(CELLS, ((1, 6), 1)), (1, "limit"))
        self.fault(changed(CELLS, ((1, 6), 10**30)), None)
        self.fault(changed(CELLS, ((11, 6), 1)), None)
        # Each file once, however many names it has there.
        self.fault(changed(CELLS, ((3, 6), 2), ((4, 2), 2), ((2, 4), 0), ((1, 6), 3)), None)
        self.fault(changed(CELLS, ((3, 6), 2), ((4, 2), 2), ((2, 4), 0), ((1, 6), 2)), (1, "limit"))
        # The words of a signpost are not used.
        self.fault(changed(CELLS, ((1, 6), 3), ((5, 3), 4), (7, (4, 38, 0, 38, 0))), None)
        self.fault(changed(CELLS, (4, (2, 1, 1, 10**30, 0, 36)), ((1, 6), 10**30)), (1, "limit"))
        self.fault(changed(CELLS, (4, (2, 1, 1, 10**30, 0, 36)), ((1, 6), 10**30 + 1)), None)

    def test_two_faults_at_once(self):
        self.faults(
            (((0, 7), 1), ((0, 3), 14), (2, (9,)), (0, "top")),
            # The snapshots' content is looked at ahead of the live tree, this ahead of the snapshots' trees.
            (((9, 0), 5), ((2, 0), 5), (9, "kind")), (((9, 1), 0), ((2, 0), 5), (0, "entries")), (((10, 0), 5), ((7, 0), 5), (7, "kind")),
            (((10, 0), 5), ((1, 6), 1), (1, "limit")), (((10, 0), 5), ((4, 2), 5), (4, "count")),
            # Kind ahead of shape, and shape of all of it ahead of its pointers.
            ((2, (9,)), (2, "kind")), (((2, 1), 12), ((2, 2), 14), (2, "shape")), (((2, 2), 14), ((2, 1), 12), (2, "shape")),
            (((4, 1), 4), ((4, 4), 14), (4, "shape")),
            # All beneath a pointer ahead of the next one.
            (((6, 0), 9), ((2, 4), 14), (6, "kind")), (((3, 0), 9), ((2, 3), 14), (3, "kind")), (((2, 3), 14), ((5, 0), 9), (2, "pointer")),
            # The content ahead of the entries, and these ahead of the next THING.
            (((3, 7), 1), ((3, 1), 0), (3, "shape")), (((3, 1), 0), ((4, 0), 9), (1, "entries")), (((7, 1), 0), ((4, 0), 9), (4, "kind")),
            # What is asked of the whole tree is asked behind it.
            (((1, 2), 5), ((7, 0), 9), (7, "kind")), (((1, 2), 5), ((1, 6), 1), (1, "count")), (((5, 2), 5), ((4, 2), 5), (4, "count")),
        )

    def test_rings_of_cells(self):
        for many in (20, 60):
            for step in (1, 3, 7):
                cells = [cell(3, *[(a * step + at) % many for at in range(7)]) for a in range(many)]
                cells[0] = cell(1, 1, 2)
                found = first_fault(cells.__getitem__, many)
                self.same(found, listed_fault(cells.__getitem__, many))
                self.assertIsNotNone(found)
        # A chain of INNERs that is as long as a great size allows.
        wide = 8
        size = 7**150
        cells = {0: cell(1, 1, 1), 1: cell(3, 0, 2), 2: (2, 2, 1, size, 3, 150, 0, 0)}
        for level in range(150, 1, -1):
            cells[153 - level] = cell(3, 154 - level)
        cells[152] = cell(4, 1, 0, 1)
        self.same(first_fault(cells.get, 160), (2, "entries"))
        cells[2] = (2, 1, 1, size, 3, 150, 0, 0)
        self.same(first_fault(cells.get, 160), (2, "count"))
        cells[100] = cell(3, 50)
        self.same(first_fault(cells.get, 160), (100, "pointer"))
        self.assertEqual(wide, len(cells[0]))

    def test_great_manys(self):
        cells = dict(enumerate(CELLS))
        self.same(first_fault(cells.get, 10**30), None)
        self.same(first_fault(CELLS.__getitem__, 2), (0, "top"))
        self.same(first_fault(CELLS.__getitem__, 8), (0, "pointer"))
        self.same(first_fault(lambda a: cell(1, 1, 1) if a == 0 else cell(3, 0, a + 1), 10**30), (2, "kind"))

    def test_nothing_is_looked_at_but_what_is_led_to(self):
        asked = []

        def look(address):
            asked.append(address)
            return CELLS[address]

        self.same(first_fault(look, 14), None)
        self.same(sorted(set(asked)), [0, 1, 2, 3, 4, 5, 6, 7, 9, 10, 11])


class Stores(Case):
    def sound(self, store):
        cells = tuple(store.look(a) for a in range(store.many()))
        self.same(first_fault(store.look, store.many()), None)
        self.same(listed_fault(cells.__getitem__, store.many()), None)
        return cells

    def test_sound_stores_of_all_kinds(self):
        for array in (bare(3), bare(60), bare(256), Array(COPIES, 20), Array(ONE, 20), Array(TWO, 20), bare(40, 65521, 32)):
            store = lay_store(array)
            drawn = Drawn(array.rows, store.prime)
            model = model_of(store)
            self.sound(store)
            for step in range(60):
                deed = drawn.deed(model.root)
                try:
                    model.do(deed)
                except ModelRefused:
                    continue
                do_deed(store, deed)
                if step % 5 == 0:
                    self.sound(store)

    def test_drawn_changes(self):
        """One word, two words or a cell made another one: the same fault as the model of the looker has."""
        numbers = Numbers(3)
        words = set()
        for seed in range(6):
            store = empty(60)
            drawn = Drawn(seed, names=("a", "b"))
            model = model_of(store)
            for _ in range(50):
                deed = drawn.deed(model.root)
                try:
                    model.do(deed)
                    do_deed(store, deed)
                except ModelRefused:
                    pass
            cells = self.sound(store)
            for _ in range(500):
                found = list(cells)
                for _ in range(1 + numbers.below(2)):
                    address = numbers.below(60) if numbers.below(4) else 0
                    place = numbers.below(8)
                    worth = (numbers.below(10), numbers.below(60), found[numbers.below(60)][place], 10**30)[numbers.below(20) % 4]
                    found[address] = found[address][:place] + (worth,) + found[address][place + 1:]
                fault = first_fault(found.__getitem__, 60)
                self.same(fault, listed_fault(found.__getitem__, 60))
                words.add(fault and fault[1])
        self.assertGreaterEqual(words, {"top", "kind", "shape", "pointer", "entries", "count", None})

    def test_any_cells(self):
        numbers = Numbers(5)
        for _ in range(400):
            many = 2 + numbers.below(20)
            cells = [(1 + numbers.below(4),) + tuple(numbers.below(many + 2) * numbers.below(2) for _ in range(7)) for _ in range(many)]
            cells[0] = (1, 1 + numbers.below(many), 1 + numbers.below(2), 0, 0, 0, 0, 0)
            self.same(first_fault(cells.__getitem__, many), listed_fault(cells.__getitem__, many))


if __name__ == "__main__":
    unittest.main()
