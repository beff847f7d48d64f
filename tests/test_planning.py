"""What deeds need [65] and write [66], and where their cells lie [54], [55]; snapshots [69]."""

import unittest

from sumstand.batches import do
from sumstand.errors import BadName, BadPath, HasSnapshot, NoRoom, NoSnapshot, NotSound, OverLimit, TooLong
from sumstand.filestore import open_store
from sumstand.looker import first_fault
from sumstand.planning import planned
from sumstand.reaching import reached
from tests.arrays import Refusing, seen
from tests.helpers import nested
from tests.stores import WORDS, do_deed, empty, filled_store, model_of, told_by

NO_NAMES = (None, True, False, 0, 3, -1, 10**999, "", "A", "a/b", "a" * 13, (), ("a",), nested(50))

# One deed of each kind that is let in the store of these, and how many new cells it wants.
GROUND = (
    ("make_folder", "/a"), ("make_file", "/a/x"), ("make_file", "/f"), ("write", "/f", 0, (7, 8)), ("snap", "s"),
)
EACH = (
    # Two LEAFs and an INNER of the folder, which has nine words then, its THING, what is made, and things' INNER.
    (("make_file", "/g"), 6),
    (("make_folder", "/g"), 6),
    # A LEAF more, of its own.
    (("signpost", "/a", "/g"), 7),
    # A LEAF, the THING and the INNER; behind seven words an INNER more, but the first LEAF stays.
    (("write", "/f", 1, (9,)), 3),
    (("write", "/f", 7, (9,)), 4),
    (("write", "/f", 0, (7,)), 0),
    (("write", "/f", 500, ()), 0),
    (("write", "/f", 2, (0, 0)), 2),
    (("cut", "/f", 1), 3),
    (("cut", "/f", 2), 0),
    (("cut", "/f", 7), 2),
    (("cut", "/f", 0), 2),
    (("drop", "/f"), 3),
    (("drop", "/a/x"), 2),
    (("link", "/f", "/a/g"), 4),
    (("link", "/f", "/g"), 6),
    (("move", "/f", "/g"), 3),
    (("move", "/f", "/a/f"), 5),
    (("move", "/a/x", "/x"), 6),
    (("limit", "/a", 0), 2),
    (("limit", "/a", None), 0),
    (("snap", "t"), 3),
    (("snap", "r"), 3),
    (("forget", "s"), 0),
    (("forget_all",), 0),
    (("back", "s"), 0),
)


def ground(many=60):
    return filled_store(many, *GROUND)


class EachDeed(Refusing):
    def hold_writes(self, store, deed, many):
        before = seen(store.array)
        taken = reached(store.look, store.wide)
        writes = planned(store, deed)
        self.same(planned(deed=deed, store=store), writes)
        self.same(store.needed(deed), many)
        self.same(seen(store.array), before)
        if not writes:
            return
        self.same(len(writes), many + 1)
        self.same(writes[-1][0], 0)
        self.same(len(set(address for address, _ in writes)), many + 1)
        for address, cell in writes[:-1]:
            self.assertNotIn(address, taken)
            self.assertIn(cell[0], (2, 3, 4))
            self.same(len(cell), store.wide)
        old = {store.look(address) for address in taken}
        do(store.array, store.code(deed))
        # All that is reached is a new cell or one that was reached; what was there lies as it lay.
        for address in reached(store.look, store.wide):
            self.assertTrue(address in dict(writes) or address in taken)
        self.assertTrue(all(store.look(address) in old for address in taken[1:]))

    def test_how_many_new_cells(self):
        for deed, many in EACH:
            with self.subTest(deed=deed):
                store = ground()
                model = model_of(store)
                for made in GROUND:
                    model.do(made)
                self.same(model.do(deed), many)
                self.hold_writes(store, deed, many)
                self.same(store.free(), model.free())
        self.same(sorted({deed[0] for deed, _ in EACH}), sorted(WORDS))

    def test_the_top_stays(self):
        for deed in (
            ("write", "/f", 0, (7, 8)), ("write", "/f", 9, ()), ("cut", "/f", 2), ("limit", "/a", None), ("limit", "/", None),
            ("back", "s"),
        ):
            store = ground()
            self.same(planned(store, deed), ())
            self.same(store.code(deed), ())
            self.same(store.needed(deed), 0)
        store = empty(20)
        self.same(planned(store, ("forget_all",)), ())

    def test_the_example_of_20_addresses(self):
        store = empty(20)
        writes = planned(store, ("make_folder", "/a"))
        self.same(len(writes), 5)
        where = {cell: address for address, cell in writes}
        self.same(store.needed(("make_folder", "/a")), 4)
        leaf = where[4, 1, 0, 2, 0, 0, 0, 0]
        two = where[2, 2, 1, 0, 0, 0, 0, 0]
        one = where[2, 2, 1, 3, leaf, 1, 0, 0]
        inner = where[3, 0, one, two, 0, 0, 0, 0]
        self.same(writes[-1], (0, (1, inner, 1, 0, 0, 0, 0, 0)))

    def test_the_example_of_an_empty_store(self):
        store = empty(20)
        self.same(store.look(0), (1, 2, 1, 0, 0, 0, 0, 0))
        self.same(store.look(1), (2, 2, 1, 0, 0, 0, 0, 0))
        self.same(store.look(2), (3, 0, 1, 0, 0, 0, 0, 0))
        self.same(store.tree(), (None, (2, (), None)))
        self.same(reached(store.look, store.wide), (0, 1, 2))
        store.make_folder("/a")
        self.same(store.tree(), (None, (2, (("a", 2),), None), (2, (), None)))
        found = reached(store.look, store.wide)
        self.same(len(found), 5)
        self.assertNotIn(1, found)
        self.assertNotIn(2, found)
        self.same(reached(wide=8, look=store.look), found)

    def test_kept_cells_are_at_their_old_addresses(self):
        store = filled_store(80, ("make_file", "/f"), ("write", "/f", 0, (1,) * 60), ("make_file", "/g"))
        _, things, _, _, _, _ = store.look(0)[:6]
        file = store.look(store.look(things)[3])
        top = store.look(file[4])
        store.write("/f", 59, (2,))
        again = store.look(store.look(store.look(0)[1])[3])
        new_top = store.look(again[4])
        self.same((new_top[1], new_top[2] == top[2]), (top[1], False))
        # The THING of the file "g" and the folder's THING are the old ones.
        self.same([store.look(store.look(0)[1])[number] for number in (2, 4)], [store.look(things)[number] for number in (2, 4)])

    def test_things_of_two_levels(self):
        store = filled_store(100, *[("make_file", f"/f{number}") for number in range(5)])
        self.same(store.look(0)[2], 1)
        self.same(store.needed(("make_file", "/f5")), 8)
        store.make_file("/f5")
        self.same(store.look(0)[2], 2)
        # The first INNER leads to thing 1, which is new, and beneath the topmost one there is one more for thing 7.
        top = store.look(store.look(0)[1])
        self.same([pointer == 0 for pointer in top[1:]], [False, False] + [True] * 5)
        inner = store.look(top[2])
        self.same(store.look(inner[1]), (2, 1, 1, 0, 0, 0, 0, 0))
        self.same(inner[2:], (0,) * 6)
        # A level less again: of the folder's content a LEAF and the INNER, its THING, and the lower INNER.
        self.same(store.needed(("drop", "/f5")), 4)
        store.drop("/f5")
        self.same(store.look(0)[2], 1)

    def test_an_inner_without_things_is_not_there(self):
        store = filled_store(200, *[("make_file", f"/f{number}") for number in range(24)])
        for number in range(23):
            store.drop(f"/f{number}")
        top = store.look(store.look(0)[1])
        self.same([pointer == 0 for pointer in top[1:]], [False, True, True, False, True, True, True])
        self.same(len(store.tree()), 26)
        store.make_file("/again")
        self.same(store.tree()[2], (1, (), None))


class Room(Refusing):
    def full(self, left):
        """A store with just so many free addresses, with a file of one word and a snapshot of it."""
        store = filled_store(40, ("make_file", "/f"), ("write", "/f", 0, (1,)), ("snap", "s"), ("make_file", "/g"))
        many = 40 - store.free() + left
        store = filled_store(many, ("make_file", "/f"), ("write", "/f", 0, (1,)), ("snap", "s"), ("make_file", "/g"))
        self.same(store.free(), left)
        return store

    def test_one_too_few_and_just_enough(self):
        for deed, many in (
            (("make_file", "/h"), 6), (("make_folder", "/h"), 6), (("signpost", "/f", "/h"), 7), (("write", "/f", 0, (2,)), 3),
            (("write", "/f", 7, (2,)), 4), (("cut", "/f", 0), 2), (("drop", "/f"), 3), (("drop", "/g"), 3),
            (("link", "/f", "/h"), 6), (("move", "/f", "/h"), 3), (("limit", "/", 9), 2), (("snap", "t"), 3),
        ):
            with self.subTest(deed=deed):
                for left in range(many):
                    store = self.full(left)
                    for call in (planned, store.__class__.code, store.__class__.needed, do_deed):
                        self.changes_nothing(store.array, NoRoom, many, call, store, deed)
                store = self.full(many)
                self.same(store.needed(deed), many)
                do_deed(store, deed)
                self.same(first_fault(store.look, store.many()), None)

    def test_forget_may_be_refused(self):
        # The snapshot "b" stands in two LEAFs, and alone in one, which is new.
        deeds = (("snap", "a"), ("snap", "b"), ("make_file", "/f"))
        store = filled_store(10, *deeds)
        self.same(store.free(), 0)
        self.changes_nothing(store.array, NoRoom, 1, store.forget, "a")
        self.changes_nothing(store.array, NoRoom, 1, store.code, ("forget", "a"))
        self.changes_nothing(store.array, NoRoom, 1, store.needed, ("forget", "a"))
        self.changes_nothing(store.array, NoRoom, 1, store.forget, "b")
        self.same(store.needed(("forget_all",)), 0)
        store.forget_all()
        self.same((store.snapshots(), store.names("/")), ((), ("f",)))
        store = filled_store(11, *deeds)
        store.forget("a")
        self.same(store.snapshots(), ("b",))

    def test_forget_all_and_back_are_never_refused(self):
        store = self.full(0)
        self.same(store.needed(("back", "s")), 0)
        store.back("s")
        self.same(store.names("/"), ("f",))
        self.assertGreater(store.free(), 0)
        store = self.full(0)
        store.forget_all()
        self.same(store.snapshots(), ())
        self.assertGreater(store.free(), 0)

    def test_nothing_to_be_written_wants_no_room(self):
        store = self.full(0)
        for deed in (("write", "/f", 0, (1,)), ("write", "/f", 3, ()), ("cut", "/f", 1), ("limit", "/", None), ("back", "s")):
            self.same(store.needed(deed), 0)
            do_deed(store, deed)

    def test_what_comes_ahead_of_no_room(self):
        store = self.full(0)
        store.limit("/", None)
        self.changes_nothing(store.array, TooLong, 300, store.cut, "/f", 300)
        self.changes_nothing(store.array, HasSnapshot, "s", store.snap, "s")
        store = filled_store(60, ("make_file", "/f"), ("limit", "/", 3), ("snap", "s"))
        many = 60 - store.free()
        store = filled_store(many + 2, ("make_file", "/f"), ("limit", "/", 3), ("snap", "s"))
        self.changes_nothing(store.array, OverLimit, "/", store.cut, "/f", 4)
        self.changes_nothing(store.array, NoRoom, 3, store.write, "/f", 0, (1,))


class Snapshots(Refusing):
    def test_they_keep_the_tree(self):
        store = empty(60)
        store.make_file("/f")
        store.snap("s")
        ahead = store.tree()
        store.write("/f", 0, (1, 2))
        store.make_folder("/d")
        store.snap("t")
        behind = store.tree()
        store.drop("/f")
        self.same(store.snapshots(), ("s", "t"))
        self.same((store.tree("s"), store.tree("t")), (ahead, behind))
        self.same(store.names("/"), ("d",))
        self.same(store.names("/", "t"), ("d", "f"))
        self.same((store.size("/f", "t"), store.size("/f", of="s")), (2, 0))

    def test_back_to_one_and_on(self):
        store = filled_store(60, ("make_file", "/f"), ("snap", "s"), ("write", "/f", 0, (1,)), ("snap", "t"), ("drop", "/f"))
        live = store.tree()
        for name in ("s", "t", "s", "t"):
            store.back(name)
            self.same(store.tree(), store.tree(name))
            self.same(store.snapshots(), ("s", "t"))
            # The very cells: the TOP leads to what the snapshot leads to.
            self.same(store.needed(("snap", "u")), 2)
            self.same(planned(store, ("back", name)), ())
        store.make_folder("/d")
        self.same(store.names("/"), ("d", "f"))
        self.same(store.names("/", "t"), ("f",))
        self.assertNotEqual(store.tree(), live)

    def test_back_has_the_very_cells(self):
        store = filled_store(60, ("make_file", "/f"), ("snap", "s"))
        top = store.look(0)
        store.write("/f", 0, (1,))
        self.assertNotEqual(store.look(0)[1], top[1])
        self.same(planned(store, ("back", "s")), ((0, top),))
        store.back("s")
        self.same(store.look(0), top)

    def test_back_to_an_equal_tree_writes_nothing(self):
        store = filled_store(60, ("make_file", "/f"), ("snap", "s"), ("write", "/f", 0, (1,)), ("cut", "/f", 0))
        self.same(store.tree(), store.tree("s"))
        top = store.look(0)
        self.same(planned(store, ("back", "s")), ())
        store.back("s")
        self.same(store.look(0), top)

    def test_no_deed_changes_a_snapshot(self):
        store = filled_store(120, *GROUND)
        kept = store.tree("s")
        for deed, _ in EACH:
            if deed[0] in ("make_file", "make_folder", "signpost", "write", "cut", "limit"):
                try:
                    do_deed(store, deed)
                except ValueError:
                    pass
                self.same(store.tree("s"), kept)
        store.forget("s")
        self.refused(NoSnapshot, "s", store.tree, "s")

    def test_forgetting(self):
        store = filled_store(60, ("make_file", "/f"), ("snap", "b"), ("snap", "a"), ("snap", "0"), ("snap", "_"))
        self.same(store.snapshots(), ("a", "b", "0", "_"))
        store.forget("b")
        self.same(store.snapshots(), ("a", "0", "_"))
        free = store.free()
        store.forget_all()
        self.same(store.snapshots(), ())
        self.same(store.free(), free + 3)
        self.same(store.look(0)[3:], (0, 0, 0, 0, 0))
        store.forget_all()
        self.same(store.snapshots(), ())

    def test_what_was_shared_is_free_when_none_has_it(self):
        store = filled_store(60, ("make_file", "/f"), ("write", "/f", 0, (1,) * 20), ("snap", "s"), ("snap", "t"))
        store.drop("/f")
        store.forget("s")
        # What the snapshot "t" keeps: the file's content of four cells, two THINGs, a LEAF and an INNER.
        self.same(store.free(), 60 - 3 - 1 - 8)
        store.forget("t")
        self.same(store.free(), 60 - 3)

    def test_refusals(self):
        store = filled_store(60, ("snap", "s"))
        for name in NO_NAMES:
            with self.subTest(name=name):
                for call in (store.snap, store.forget, store.back):
                    self.changes_nothing(store.array, BadName, name, call, name)
                if name is not None:
                    self.changes_nothing(store.array, BadName, name, store.tree, name)
                    self.changes_nothing(store.array, BadName, name, store.names, "/", name)
        self.changes_nothing(store.array, HasSnapshot, "s", store.snap, "s")
        for call in (store.forget, store.back, store.tree):
            self.changes_nothing(store.array, NoSnapshot, "t", call, "t")
        self.changes_nothing(store.array, NoSnapshot, "t", store.names, "/no", "t")
        self.changes_nothing(store.array, BadPath, "no", store.names, "no", "T")
        self.changes_nothing(store.array, BadName, "T", store.names, "/no", "T")

    def test_their_content_is_too_long(self):
        store = empty(256)
        signs = "abcdefghijklmnopqrstuvwxyz0123456789_-"
        for sign in signs:
            store.snap(sign)
        for sign in signs[:20]:
            store.snap("a" + sign)
        # 38 times four words and 20 times five are 252; four more are let, five are not.
        self.same(store.look(0)[5], 252)
        self.changes_nothing(store.array, TooLong, 257, store.snap, "zz")
        self.changes_nothing(store.array, HasSnapshot, "z", store.snap, "z")
        self.changes_nothing(store.array, TooLong, 267, store.snap, "z" * 12)
        store.forget("a")
        store.snap("zzzzz")
        self.same(store.look(0)[5], 256)
        self.same(first_fault(store.look, store.many()), None)
        self.same(told_by(open_store(store.array)), told_by(store))

    def test_things_of_two_levels_in_a_snapshot(self):
        store = filled_store(200, *[("make_file", f"/f{number}") for number in range(9)])
        store.snap("s")
        for number in range(9):
            store.drop(f"/f{number}")
        self.same(store.look(0)[2], 1)
        self.same(len(store.names("/", "s")), 9)
        store.back("s")
        self.same(store.look(0)[2], 2)
        self.same(len(store.names("/")), 9)


class Limits(Refusing):
    def test_behind_a_deed(self):
        store = filled_store(120, ("make_folder", "/a"), ("make_folder", "/a/b"), ("make_file", "/a/b/f"), ("make_file", "/g"))
        store.limit("/a", 5)
        store.write("/a/b/f", 0, (1,) * 5)
        self.changes_nothing(store.array, OverLimit, "/a", store.cut, "/a/b/f", 6)
        self.changes_nothing(store.array, OverLimit, "/a", store.write, "/a/b/f", 5, (0,))
        store.write("/g", 0, (1,) * 9)
        self.changes_nothing(store.array, OverLimit, "/a", store.link, "/g", "/a/g")
        self.changes_nothing(store.array, OverLimit, "/a", store.move, "/g", "/a/b/g")
        self.changes_nothing(store.array, OverLimit, "/a", store.limit, "/a", 4)
        store.signpost("/g", "/a/g")
        store.link("/a/b/f", "/a/f")
        self.same((store.used("/a"), store.used("/")), (5, 14))
        store.limit("/a", None)
        store.cut("/a/f", 6)

    def test_the_first_folder_in_the_order_of_names(self):
        store = filled_store(
            150, ("make_folder", "/z"), ("make_folder", "/0"), ("make_folder", "/z/y"), ("make_file", "/z/y/f"),
            ("link", "/z/y/f", "/0/f"), ("link", "/z/y/f", "/g"),
        )
        for path in ("/z", "/0", "/z/y", "/"):
            store.limit(path, 3)
        for path, limit, due in (
            (None, None, "/"), ("/", None, "/z"), ("/z", 9, "/z/y"), ("/z/y", None, "/0"), ("/0", 4, None),
        ):
            if path is not None:
                store.limit(path, limit)
            if due is not None:
                self.changes_nothing(store.array, OverLimit, due, store.cut, "/g", 4)
        store.cut("/g", 4)

    def test_limit_tells_the_path_that_was_handed_in(self):
        store = filled_store(80, ("make_folder", "/a"), ("signpost", "/a", "/s"), ("make_file", "/a/f"), ("cut", "/a/f", 5))
        self.changes_nothing(store.array, OverLimit, "/s", store.limit, "/s", 4)
        store.limit("/s", 5)
        self.same(store.limit_of("/a"), 5)

    def test_too_long_ahead_of_over_limit(self):
        store = filled_store(60, ("make_file", "/f"), ("limit", "/", 0))
        self.changes_nothing(store.array, TooLong, 257, store.cut, "/f", 257)
        self.changes_nothing(store.array, OverLimit, "/", store.cut, "/f", 256)

    def test_back_is_never_refused_for_a_limit(self):
        store = filled_store(60, ("make_file", "/f"), ("cut", "/f", 5), ("snap", "s"), ("cut", "/f", 0), ("limit", "/", 0))
        store.back("s")
        self.same((store.limit_of("/"), store.used("/")), (None, 5))

    def test_limits_of_files_named_several_times(self):
        store = filled_store(
            120, ("make_folder", "/a"), ("make_folder", "/b"), ("make_file", "/a/f"), ("cut", "/a/f", 5), ("limit", "/a", 5),
            ("link", "/a/f", "/a/g"), ("link", "/a/f", "/b/f"), ("limit", "/b", 5), ("limit", "/", 5),
        )
        self.same([store.used(path) for path in ("/", "/a", "/b")], [5, 5, 5])
        store.drop("/a/f")
        self.changes_nothing(store.array, OverLimit, "/", store.cut, "/a/g", 6)
        store.move("/a/g", "/b/g")
        self.same([store.used(path) for path in ("/", "/a", "/b")], [5, 0, 5])


class Errors(Refusing):
    def test_planned_raises_what_the_deed_raises(self):
        store = ground()
        for deed, _ in EACH:
            for at in range(1, len(deed)):
                wrong = deed[:at] + (-1.5,) + deed[at + 1:]
                with self.assertRaises(ValueError) as caught:
                    planned(store, wrong)
                with self.assertRaises(ValueError) as again:
                    do_deed(store, wrong)
                self.same(again.exception.__class__, caught.exception.__class__)
                self.same(caught.exception.what, -1.5 if deed[0] != "write" or at < 3 else -1)

    def test_not_sound_has_nothing_to_do_with_it(self):
        self.refused(NotSound, (0, "top"), open_store, broken(empty(20)).array)


def broken(store):
    """The store with a TOP that is none."""
    do(store.array, store.cells.drive(((0, (9,) * 8),)))
    return store


if __name__ == "__main__":
    unittest.main()
