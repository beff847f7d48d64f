"""Scripts of drawn deeds beside a plain model of the tree and of its cells ([0.3] d, e)."""

import unittest

from sumstand.batches import do
from sumstand.errors import Refused
from sumstand.filestore import lay_store, open_store
from sumstand.looker import first_fault
from sumstand.planning import planned
from sumstand.reaching import reached
from sumstand.shelves import Array
from tests.arrays import Refusing, seen
from tests.stores import COPIES, Drawn, ONE, TWO, bare, do_deed, model_of, model_told, told_by
from tests.treemodel import ModelRefused


class Scripts(Refusing):
    def hold_refused(self, store, deed, refused):
        """The store refuses the deed as the model does, in each way that it can be asked for it."""
        before = seen(store.array)
        calls = ((do_deed, store), (planned, store), (store.__class__.code, store), (store.__class__.needed, store))
        for call, ground in calls:
            with self.assertRaises(Refused, msg=repr(deed)) as caught:
                call(ground, deed)
            self.same((caught.exception.__class__.__name__, caught.exception.what), (refused.name, refused.what))
        self.same(seen(store.array), before)

    def hold_done(self, store, deed, needed):
        """The store does the deed, with as many new cells as the model has."""
        before = seen(store.array)
        taken = set(reached(store.look, store.wide))
        self.same(store.needed(deed), needed)
        writes = planned(store, deed)
        code = store.code(deed)
        self.same(seen(store.array), before)
        self.assertEqual(max(0, len(writes) - 1), needed)
        if writes:
            self.assertEqual(writes[-1][0], 0)
            places = [address for address, _ in writes]
            self.assertEqual(len(set(places)), len(places))
            self.assertFalse(set(places[:-1]) & taken)
            self.assertTrue(all(0 <= address < store.many() for address in places))
        self.same(store.cells.drive(writes), code)
        self.same(do_deed(store, deed), None)
        for address, cell in writes:
            self.same(store.look(address), cell)

    def hold_same(self, store, model):
        self.same(told_by(store), model_told(model))
        self.same(store.snapshots(), model.names())
        self.same(store.free(), model.free())
        self.same(len(reached(store.look, store.wide)), model.reached())
        self.same(first_fault(store.look, store.many()), None)

    def run_script(self, array, drawn, many, done):
        store = lay_store(array)
        model = model_of(store)
        for step in range(many):
            deed = drawn.wrong(model.root) if drawn.numbers.below(12) == 0 else drawn.deed(model.root)
            try:
                needed = model.do(deed)
            except ModelRefused as refused:
                with self.subTest(step=step, deed=deed, refused=refused.name):
                    self.hold_refused(store, deed, refused)
                done[refused.name] = done.get(refused.name, 0) + 1
                continue
            with self.subTest(step=step, deed=deed):
                self.hold_done(store, deed, needed)
                self.hold_same(store, model)
            done[deed[0]] = done.get(deed[0], 0) + 1
        self.same(told_by(open_store(array)), model_told(model))
        return store

    def test_scripts_of_small_and_great_stores(self):
        done = {}
        for seed, many in ((1, 24), (2, 40), (3, 60), (4, 120), (5, 256)):
            self.run_script(bare(many), Drawn(seed), 300, done)
        for word in (
            "make_file", "make_folder", "signpost", "write", "cut", "drop", "link", "move", "limit", "snap", "forget",
            "forget_all", "back", "BadPath", "BadRange", "BadWords", "BadSize", "BadLimit", "BadName", "NoThing",
            "NotFolder", "NotFile", "There", "Loop", "Top", "NotEmpty", "Within", "TooLong", "OverLimit", "NoRoom",
            "HasSnapshot", "NoSnapshot",
        ):
            with self.subTest(word=word):
                self.assertIn(word, done)

    def test_scripts_with_sums(self):
        for seed, shape, rows in ((6, COPIES, 40), (7, ONE, 30), (8, TWO, 24)):
            self.run_script(Array(shape, rows), Drawn(seed, shape[0]), 80, {})

    def test_scripts_with_wide_cells(self):
        for seed, wide, many in ((9, 9, 60), (10, 17, 40), (11, 32, 30)):
            self.run_script(bare(many, 65521, wide), Drawn(seed, 65521, longest=90), 150, {})

    def test_scripts_in_a_full_store(self):
        done = {}
        for seed in range(12, 16):
            self.run_script(bare(3 + seed), Drawn(seed, names=("a", "b")), 150, done)
        self.assertGreater(done["NoRoom"], 20)

    def test_equal_scripts_do_the_same(self):
        arrays = [bare(60), bare(60)]
        for array in arrays:
            self.run_script(array, Drawn(21), 60, {})
        self.same(seen(arrays[0]), seen(arrays[1]))

    def test_losses_while_deeds_are_done(self):
        drawn = Drawn(31, TWO[0])
        array = Array(TWO, 30)
        store = lay_store(array)
        model = model_of(store)
        for step in range(60):
            deed = drawn.deed(model.root)
            try:
                model.do(deed)
                do(array, store.code(deed))
            except ModelRefused:
                pass
            if step in (20, 40):
                array.lose(step // 10)
            self.same(told_by(store), model_told(model))
            self.same(store.free(), model.free())
        self.same(told_by(open_store(array)), model_told(model))


if __name__ == "__main__":
    unittest.main()
