"""Stores [71] and questions [72]: laying, opening, what is asked, and arrays that change beneath a store."""

import unittest

from sumstand.batches import do, stopped
from sumstand.cellstore import Cells
from sumstand.errors import (
    BadAddress, BadGround, BadName, BadPath, BadRange, NoSnapshot, NotFile, NotFolder, NotSignpost, NotSound, Spoilt,
    Unwhole,
)
from sumstand.filestore import Store, lay_store, open_store
from sumstand.filling import fill, trust
from sumstand.growth import blank, join, leave, sum_less
from sumstand.planning import planned
from sumstand.reaching import reached
from sumstand.scrub import looks
from sumstand.shelves import Array
from tests.arrays import ELEVEN, Refusing, lose_all, part_of_great, seen, spoil, twin, unkept
from tests.helpers import GREAT, GREAT_TABLE, NO_NUMBERS, Numbers
from tests.stores import BARE, COPIES, ONE, TWO, bare, do_deed, empty, filled_store, told_by

DEEDS = (
    ("make_folder", "/a"), ("make_file", "/a/x"), ("write", "/a/x", 2, (5, 0, 6)), ("link", "/a/x", "/y"),
    ("signpost", "/a", "/s"), ("snap", "one"), ("cut", "/y", 1), ("limit", "/a", 9),
)


class Laying(Refusing):
    def test_an_empty_store(self):
        for array in (Array(BARE, 3), Array(BARE, 64), Array(COPIES, 30), Array(ONE, 20), Array(TWO, 10), Array(GREAT, 64)):
            store = lay_store(array=array)
            self.assertIsInstance(store, Store)
            wide = array.shape[1]
            zeros = (0,) * (wide - 6)
            self.same(store.look(0), (1, 2, 1, 0, 0, 0) + zeros)
            self.same(store.look(1), (2, 2, 1, 0, 0, 0) + zeros)
            self.same(store.look(2), (3, 0, 1, 0, 0, 0) + zeros)
            self.same(told_by(store), ((None, (2, (), None)), ()))
            self.same((store.many(), store.free()), (array.shape[2] * array.rows, array.shape[2] * array.rows - 3))
            self.assertIs(store.array, array)
            self.assertIsInstance(store.cells, Cells)
            self.assertIs(store.cells.array, array)
            self.same((store.prime, store.wide), (array.shape[0], wide))
            self.same(told_by(open_store(array=array)), told_by(store))

    def test_the_old_worths_do_not_matter(self):
        numbers = Numbers(3)
        array = bare(40)
        do(array, Cells(array).drive(tuple((a, numbers.row(8, 257)) for a in range(40))))
        store = lay_store(array)
        self.same((told_by(store), store.free()), (((None, (2, (), None)), ()), 37))
        store.make_file("/f")
        lay_store(array)
        self.same(store.names("/"), ())

    def test_torn_rows_are_mended(self):
        array = Array(ONE, 3)
        do(array, (((1, 2, (9,) * 8),),))
        self.same(looks(array), ("whole", "whole", "torn"))
        lay_store(array)
        self.same(looks(array), ("whole",) * 3)

    def test_bad_grounds_in_their_order(self):
        bad = (
            ((251, 7, 1, (), 0), 2, 0), ((251, 8, 1, (), 0), 3, 0), ((2, 32, 6, (), 0), 64, 0), ((257, 7, 1, (), 0), 2, 1),
            ((257, 1, 6, (), 0), 64, 1), ((65521, 7, 6, (), 0), 64, 1), ((257, 8, 1, (), 0), 1, 2), ((257, 8, 1, (), 0), 2, 2),
            ((257, 8, 2, (), 0), 1, 2), ((257, 8, 5, (), 0), 52, 2), ((257, 8, 6, (), 0), 64, 2), ((263, 8, 5, (), 0), 53, 2),
        )
        for shape, rows, what in bad:
            with self.subTest(shape=shape, rows=rows):
                for call in (lay_store, open_store):
                    self.changes_nothing(Array(shape, rows), BadGround, what, call, Array(shape, rows))
        # Ahead of a spoilt row.
        array = Array(ELEVEN, 2)
        spoil(array, 1)
        self.changes_nothing(array, BadGround, 0, lay_store, array)
        self.changes_nothing(array, BadGround, 0, open_store, array)

    def test_just_enough_addresses(self):
        for many in (3, 4, 256):
            store = empty(many)
            self.same((store.many(), store.free()), (many, many - 3))
        self.same(empty(258, 263).many(), 258)
        self.refused(BadGround, 2, lay_store, Array((257, 8, 1, (), 0), 2))

    def test_spoilt_rows(self):
        for at in (0, 1, 2):
            array = Array(ONE, 3)
            spoil(array, at)
            if at == 0:
                spoil(array, 2)
            self.changes_nothing(array, Spoilt, at, lay_store, array)
            self.changes_nothing(array, Spoilt, at, open_store, array)


class Opening(Refusing):
    def test_what_was_laid_and_done(self):
        for shape, rows in ((BARE, 60), (COPIES, 60), (ONE, 40), (TWO, 30)):
            store = lay_store(Array(shape, rows))
            for deed in DEEDS:
                do_deed(store, deed)
                before = seen(store.array)
                other = open_store(store.array)
                self.same(told_by(other), told_by(store))
                self.same(other.free(), store.free())
                self.same(seen(store.array), before)

    def test_what_is_not_sound(self):
        array = bare(20)
        self.changes_nothing(array, NotSound, (0, "top"), open_store, array)
        store = lay_store(array)
        store.make_file("/f")
        things = store.look(0)[1]
        do(array, store.cells.drive(((things, (3,) + (0,) * 7),)))
        self.changes_nothing(array, NotSound, (things, "shape"), open_store, array)

    def test_nothing_is_written_for_a_store_that_is_not_sound(self):
        array = Array(ONE, 5)
        do(array, (((1, 4, (9,) * 8),),))
        self.same(looks(array)[4], "torn")
        self.changes_nothing(array, NotSound, (0, "top"), open_store, array)
        self.same(looks(array)[4], "torn")

    def test_nothing_is_written_but_mends(self):
        array = Array(ONE, 20)
        store = lay_store(array)
        for deed in DEEDS[:3]:
            do_deed(store, deed)
        before = seen(array)
        do(array, (((1, 7, (9,) * 8), (2, 7, array.cell(7, 2))),))
        self.same(told_by(open_store(array)), told_by(store))
        self.same(seen(array), before)

    def test_lost_and_filling_shelves_are_not_written(self):
        array = Array(TWO, 20)
        store = lay_store(array)
        store.make_file("/f")
        lose_all(array, (1, 4))
        array.replace(4, ((7,) * 8,) * 20)
        self.same(store.names("/"), ("f",))
        do(array, (((0, 3, (5,) * 8),),))
        before = seen(array)
        self.same(open_store(array).names("/"), ("f",))
        self.same((seen(array)[2], seen(array)[3][4]), (before[2], before[3][4]))


class Questions(Refusing):
    def store(self):
        return filled_store(120, *DEEDS)

    def test_all_of_them(self):
        store = self.store()
        before = seen(store.array)
        for call, due in (
            (store.kind("/"), "folder"), (store.kind("/a"), "folder"), (store.kind("/y"), "file"), (store.kind("/s"), "folder"),
            (store.kind("/s/x"), "file"), (store.names("/"), ("a", "s", "y")), (store.names("/a"), ("x",)),
            (store.names("/s"), ("x",)), (store.size("/y"), 1), (store.size("/a/x", "one"), 5), (store.links("/y"), 2),
            (store.links("/s/x"), 2), (store.read("/a/x", 0, 9, "one"), (0, 0, 5, 0, 6)), (store.target("/s"), "/a"),
            (store.used("/"), 1), (store.used("/a"), 1), (store.used("/", "one"), 5), (store.limit_of("/"), None),
            (store.limit_of("/a"), 9), (store.limit_of("/s"), 9), (store.limit_of("/a", "one"), None),
            (store.snapshots(), ("one",)), (store.free(), 120 - len(reached(store.look, 8))),
            (store.needed(("drop", "/s")), 3), (store.tree(), store.tree(None)),
        ):
            self.same(call, due)
        self.same(seen(store.array), before)

    def test_arguments_by_name(self):
        store = self.store()
        self.same(store.read(of="one", many=2, at=2, path="/y"), (5, 0))
        for word, path in (("kind", "/a"), ("names", "/a"), ("size", "/y"), ("links", "/y"), ("target", "/s"), ("used", "/a"), ("limit_of", "/a")):
            call = getattr(store, word)
            self.same(call(of="one", path=path), call(path, "one"))
        self.same(store.tree(of="one"), store.tree("one"))
        self.same(store.needed(deed=("drop", "/s")), store.needed(("drop", "/s")))
        self.same(store.look(address=0), store.look(0))
        self.same(store.row(text="kind /a"), "folder")
        self.same(store.code(deed=("drop", "/s")), store.code(("drop", "/s")))

    def test_deeds_by_name(self):
        one, two = empty(120), empty(120)
        for word, arguments in (
            ("make_folder", {"path": "/a"}), ("make_file", {"path": "/f"}), ("signpost", {"text": "/a", "path": "/s"}),
            ("write", {"path": "/f", "at": 1, "words": (3,)}), ("cut", {"path": "/f", "size": 1}), ("link", {"path": "/f", "new": "/g"}),
            ("move", {"path": "/g", "new": "/a/g"}), ("limit", {"path": "/a", "words": 3}), ("snap", {"name": "s"}),
            ("drop", {"path": "/f"}), ("back", {"name": "s"}), ("forget", {"name": "s"}), ("forget_all", {}),
        ):
            self.same(getattr(one, word)(**dict(reversed(arguments.items()))), None)
            self.same(getattr(two, word)(*arguments.values()), None)
            self.same(told_by(one), told_by(two))

    def test_reading(self):
        store = self.store()
        store.write("/y", 0, (1, 2, 3))
        for at, many, due in (
            (0, 0, ()), (0, 1, (1,)), (0, 3, (1, 2, 3)), (0, 4, (1, 2, 3)), (1, 1, (2,)), (2, 9, (3,)), (3, 9, ()), (9, 9, ()),
            (10**999, 10**999, ()), (0, 10**999, (1, 2, 3)),
        ):
            self.same(store.read("/y", at, many), due)

    def test_the_order_of_refusals(self):
        store = self.store()
        for number in NO_NUMBERS + (-1, -10**999):
            self.refused(BadRange, number, store.read, "/no", number, None, "T")
            self.refused(BadRange, number, store.read, "/no", 0, number, "T")
            self.refused(BadPath, "no", store.read, "no", number, number, "T")
        for word, others in (
            ("kind", ()), ("names", ()), ("size", ()), ("links", ()), ("read", (0, 1)), ("target", ()), ("used", ()), ("limit_of", ()),
        ):
            call = getattr(store, word)
            for of in ("T", "", 3, True, False, 0, (), ("one",)):
                self.refused(BadName, of, call, "/no", *others, of)
                self.refused(BadPath, "no", call, "no", *others, of)
            self.refused(NoSnapshot, "two", call, "/no", *others, "two")
        for of in ("T", "", 3, True, False, 0, (), ("one",)):
            self.refused(BadName, of, store.tree, of)
        self.refused(NoSnapshot, "two", store.tree, "two")

    def test_of_another_kind(self):
        store = self.store()
        for of in (None, "one"):
            for path in ("/", "/a", "/s"):
                self.refused(NotFile, path, store.size, path, of)
                self.refused(NotFile, path, store.links, path, of)
                self.refused(NotFile, path, store.read, path, 0, 0, of)
            for path in ("/y", "/a/x", "/s/x"):
                self.refused(NotFolder, path, store.names, path, of)
                self.refused(NotFolder, path, store.used, path, of)
                self.refused(NotFolder, path, store.limit_of, path, of)
            for path in ("/", "/a", "/y", "/s/x"):
                self.refused(NotSignpost, path, store.target, path, of)

    def test_addresses(self):
        store = self.store()
        for address in NO_NUMBERS + (-1, 120, 10**999):
            self.refused(BadAddress, address, store.look, address)
        self.same(store.look(119), (0,) * 8)


class Outside(Refusing):
    """A store keeps nothing beside the cells: the array is changed beneath it."""

    def test_two_stores_of_one_array(self):
        array = bare(60)
        one = lay_store(array)
        two = open_store(array)
        one.make_folder("/a")
        two.make_file("/a/f")
        one.snap("s")
        self.same(told_by(two), told_by(one))
        two.back("s")
        two.forget("s")
        self.same(one.snapshots(), ())
        self.same(one.free(), two.free())

    def test_another_store_laid_beneath_it(self):
        array = bare(60)
        one = lay_store(array)
        one.make_folder("/a")
        lay_store(array).make_file("/f")
        self.same(one.tree(), (None, (2, (("f", 2),), None), (1, (), None)))

    def test_shelves_lost_replaced_and_filled(self):
        array = Array(TWO, 30)
        store = lay_store(array)
        for step, deed in enumerate(DEEDS):
            if step == 1:
                lose_all(array, (0, 5))
            if step == 3:
                array.replace(5, ((3,) * 8,) * 30)
            if step == 5:
                do(array, fill(array))
                trust(array)
                array.lose(4)
            do_deed(store, deed)
        other = filled_store(60, *DEEDS)
        self.same(told_by(store), told_by(other))
        self.same(unkept(array), (0, 4))
        self.same(told_by(open_store(array)), told_by(other))

    def test_it_grows_by_new_and_join(self):
        for shape in (part_of_great(8, 1, 3), part_of_great(8, 1, 4), (65521, 8, 1, (), 0)):
            array = Array(shape, 12)
            store = lay_store(array)
            store.make_file("/f")
            free = store.free()
            array.new(tuple(row[1] for row in GREAT_TABLE[:len(shape[3])]), ((9,) * 8,) * 12)
            self.same((store.many(), store.free()), (12, free))
            do(array, blank(array))
            join(array)
            self.same((store.many(), store.free()), (24, free + 12))
            store.write("/f", 0, (1,) * 40)
            self.same(store.read("/f", 38, 9), (1, 1))
            self.assertGreater(max(reached(store.look, store.wide)), 11)
            if shape[3]:
                array.sum_more(GREAT_TABLE[len(shape[3])][:2], ((5,) * 8,) * 12)
                do(array, fill(array))
                trust(array)
                self.same(store.size("/f"), 40)
                sum_less(array)
            self.same(store.size("/f"), 40)
            self.same(told_by(open_store(array)), told_by(store))

    def test_addresses_stay_fewer_than_p(self):
        array = Array((257, 8, 4, (), 0), 64)
        store = lay_store(array)
        self.same(store.many(), 256)
        array.new((), ((0,) * 8,) * 64)
        join(array)
        self.same(store.cells.size(), 320)
        self.same(store.many(), 256)
        store.make_file("/f")
        self.assertTrue(all(address < 256 for address, _ in planned(store, ("write", "/f", 0, (1,) * 200))))
        self.same(store.free(), 256 - len(reached(store.look, 8)))
        self.changes_nothing(array, BadGround, 2, open_store, array)

    def test_it_leaves_again(self):
        array = Array(ONE, 12)
        store = lay_store(array)
        store.make_file("/f")
        self.same(max(reached(store.look, 8)) < 12, True)
        do(array, store.cells.drive(tuple((address, (0,) * 8) for address in range(12, 24))))
        leave(array)
        self.same((store.many(), store.names("/")), (12, ("f",)))
        self.same(told_by(open_store(array)), told_by(store))

    def test_a_pointer_that_leads_to_no_address(self):
        store = empty(20)
        do(store.array, store.cells.drive(((0, (1, 20, 1, 0, 0, 0, 0, 0)),)))
        self.changes_nothing(store.array, BadAddress, 20, store.tree)
        self.same(store.row("names /"), "refused: BadAddress 20")

    def test_torn_rows_are_not_looked_at(self):
        array = Array(ONE, 20)
        store = lay_store(array)
        code = store.code(("make_file", "/f"))
        stopped(array, code, len(code) - 1, (0,))
        self.same(looks(array)[0], "torn")
        for call in (store.tree, store.free, store.snapshots):
            self.changes_nothing(array, Unwhole, 0, call)
        self.changes_nothing(array, Unwhole, 0, store.make_file, "/f")
        self.same(store.row("names /"), "refused: Unwhole 0")
        self.assertIn(open_store(array).names("/"), ((), ("f",)))

    def test_a_torn_row_that_nothing_reaches_is_mended_when_it_is_written(self):
        array = Array(ONE, 20)
        store = lay_store(array)
        do(array, (((0, 3, (9,) * 8),),))
        self.same(looks(array)[3], "torn")
        store.make_file("/f")
        self.same(looks(array), ("whole",) * 20)
        self.same(store.names("/"), ("f",))

    def test_equal_calls_tell_the_same(self):
        store = filled_store(120, *DEEDS)
        other = Store(twin(store.array))
        for call in ("tree", "snapshots", "free"):
            self.same(getattr(store, call)(), getattr(other, call)())
            self.same(getattr(store, call)(), getattr(store, call)())
        for deed in (("make_file", "/n"), ("write", "/y", 4, (1, 2)), ("snap", "two"), ("back", "one")):
            self.same(planned(store, deed), planned(other, deed))
            self.same(store.code(deed), other.code(deed))


if __name__ == "__main__":
    unittest.main()
