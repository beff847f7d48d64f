"""Stores of the greatest size that the limits let: each call ends within seconds."""

import time
import unittest

from sumstand.batches import deed, do, stopped
from sumstand.cellstore import Cells
from sumstand.filestore import lay_store, open_store
from sumstand.looker import first_fault
from sumstand.making import content_cells, content_need
from sumstand.planning import planned
from sumstand.reaching import reached
from sumstand.scrub import looks
from sumstand.shelves import Array
from sumstand.treetexts import tree_of, tree_text
from tests.arrays import Refusing, lose_all, twin
from tests.helpers import GREAT, Numbers
from tests.stores import do_deed, empty, told_by

# Far more than is wanted, so that a machine that is busy does not fail.
SECONDS = 20

WORDS = tuple(at * 7919 % 65521 for at in range(8000))


class Great(Refusing):
    def quick(self, call, *given):
        start = time.monotonic()
        found = call(*given)
        self.assertLess(time.monotonic() - start, SECONDS, call.__name__)
        return found

    def test_a_file_of_thousands_of_words(self):
        array = Array(GREAT, 64)
        store = self.quick(lay_store, array)
        self.same((store.many(), store.free()), (384, 381))
        self.quick(store.make_file, "/f")
        self.same(self.quick(store.needed, ("write", "/f", 0, WORDS)), content_cells(32, WORDS) + 2)
        self.quick(store.write, "/f", 0, WORDS)
        self.same(self.quick(store.read, "/f", 0, 9999), WORDS)
        self.same(self.quick(store.needed, ("write", "/f", 4000, (1, 2))), content_need(32, WORDS, WORDS[:4000] + (1, 2) + WORDS[4002:]) + 2)
        self.quick(store.snap, "s")
        self.quick(store.write, "/f", 4000, (1, 2))
        lose_all(array, (0, 7, 10))
        self.same(self.quick(store.read, "/f", 3999, 4), (WORDS[3999], 1, 2, WORDS[4002]))
        self.quick(store.back, "s")
        self.same(told_by(self.quick(open_store, array)), told_by(store))
        self.same(self.quick(tree_of, self.quick(tree_text, store))[1], ("write", "/f", 0, WORDS))
        self.same(self.quick(first_fault, store.look, store.many()), None)
        self.same(len(self.quick(reached, store.look, 32)), 384 - self.quick(store.free))

    def test_all_rows_torn(self):
        array = Array(GREAT, 64)
        store = lay_store(array)
        store.make_file("/f")
        store.write("/f", 0, WORDS)
        ahead = told_by(store)
        for lost in ((), (6,), (2, 7, 10)):
            # Two of the six writes of a deed came, so that more cells agree with what was told ahead.
            torn = twin(array)
            for row in range(64):
                stopped(torn, deed(torn, row, 1, (row + 1,) * 32), 0, (0, 4))
            self.same(looks(torn), ("torn",) * 64)
            lose_all(torn, lost)
            self.same(told_by(self.quick(open_store, torn)), ahead)
            self.same(looks(torn), ("whole",) * 64)

    def test_many_files_of_the_greatest_size(self):
        store = lay_store(Array((65521, 32, 6, (), 0), 64))
        for number in range(40):
            store.make_file(f"/f{number}")
            self.quick(store.cut, f"/f{number}", 65520)
        self.same(self.quick(store.used, "/"), 2620800)
        self.same(self.quick(store.read, "/f7", 65519, 5), (0,))
        self.quick(store.snap, "s")
        self.quick(store.write, "/f7", 65519, (1,))
        self.same(self.quick(store.kind, "/f8", "s"), "file")
        self.quick(store.back, "s")
        self.assertEqual(len(self.quick(store.tree)), 42)
        self.same(len(self.quick(tree_text, store)), 40)
        self.same(self.quick(first_fault, store.look, store.many()), None)
        self.same(told_by(self.quick(open_store, store.array)) == told_by(store), True)

    def test_as_many_things_and_limits_as_there_is_room_for(self):
        store = lay_store(Array((65521, 32, 6, (), 0), 64))
        path = ""
        for number in range(20):
            path += "/d"
            store.make_folder(path)
            store.limit(path, 65519 - number)
        made = 0
        while store.free() > 45:
            self.quick(store.make_folder, f"/d/n{made}")
            store.limit(f"/d/n{made}", 0)
            made += 1
        self.assertGreater(made, 200)
        self.same(len(self.quick(store.names, "/d")), made + 1)
        self.quick(store.move, "/d/n7", "/n")
        self.quick(store.limit, "/", 0)
        self.same(self.quick(store.used, "/"), 0)
        self.same(len(self.quick(tree_of, self.quick(tree_text, store))), 2 * (made + 20) + 1)
        self.same(self.quick(first_fault, store.look, store.many()), None)

    def test_many_snapshots(self):
        store = empty(384, 65521, 32)
        store.make_file("/f")
        store.write("/f", 0, WORDS[:3000])
        for number in range(40):
            self.quick(store.snap, f"s{number}")
            self.quick(store.cut, "/f", 2999 - number)
        self.same(len(store.snapshots()), 40)
        self.same(self.quick(first_fault, store.look, store.many()), None)
        self.same(self.quick(store.size, "/f", "s39"), 2961)
        self.quick(open_store, store.array)
        self.quick(store.forget_all)

    def test_a_long_ring_of_signposts(self):
        store = empty(384, 65521)
        for number in range(30):
            store.signpost(f"/s{(number + 1) % 30}", f"/s{number}")
        self.same(self.quick(store.row, "kind /s3"), "refused: Loop /s3")
        self.same(self.quick(store.row, "drop /s3/x"), "refused: Loop /s3/x")

    def test_cells_that_look_as_if_by_chance(self):
        numbers = Numbers(5)
        array = Array((65521, 32, 6, (), 0), 64)
        cells = Cells(array)
        for _ in range(3):
            worths = [(3,) + numbers.row(31, 384) for _ in range(384)]
            worths[0] = (1, 1, 2) + (0,) * 29
            do(array, cells.drive(tuple(enumerate(worths))))
            fault = self.quick(first_fault, cells.look, 384)
            self.assertIn(fault[1], ("shape", "pointer", "kind"))

    def test_planning_changes_nothing(self):
        store = empty(384, 65521, 32)
        store.make_file("/f")
        writing = ("write", "/f", 0, WORDS)
        self.same(self.quick(planned, store, writing), self.quick(planned, store, writing))
        do_deed(store, writing)
        self.same(planned(store, writing), ())


if __name__ == "__main__":
    unittest.main()
