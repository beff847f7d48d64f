"""Stops in the deeds of a store, with losses, and what is told when it is opened anew ([0.3] d, e; [71])."""

import unittest

from sumstand.batches import do, stopped
from sumstand.filestore import lay_store, open_store
from sumstand.filling import fill, trust
from sumstand.scrub import looks, scrub
from sumstand.shelves import Array
from tests.arrays import Refusing, lose_all, seen, twin, unkept
from tests.helpers import Numbers
from tests.listing import losses, rising, shelves
from tests.stores import BARE, COPIES, Drawn, ONE, TWO, do_deed, model_of, model_told, told_by
from tests.treemodel import ModelRefused

GROUND = (("make_folder", "/a"), ("make_file", "/f"), ("write", "/f", 0, (7, 8, 9)), ("snap", "s"), ("cut", "/f", 1))

# A deed of each kind, that writes something.
EACH = (
    ("make_file", "/g"), ("make_folder", "/a/b"), ("signpost", "/f", "/a/s"), ("write", "/f", 6, (1, 2)), ("cut", "/f", 3),
    ("drop", "/a"), ("link", "/f", "/a/f"), ("move", "/f", "/a/g"), ("limit", "/", 5), ("snap", "t"), ("forget", "s"),
    ("forget_all",), ("back", "s"),
)


def ground(shape, rows=24):
    store = lay_store(Array(shape, rows))
    for deed in GROUND:
        do_deed(store, deed)
    return store


def with_losses(array, lost):
    """The array once more, with these shelves lost that are not yet."""
    other = twin(array)
    lose_all(other, lost)
    return other


class Stops(Refusing):
    def sides(self, store, deed):
        """What the store tells ahead of the deed and behind it, and how many addresses are free then."""
        behind = open_store(twin(store.array))
        do_deed(behind, deed)
        return (told_by(store), store.free()), (told_by(behind), behind.free())

    def hold_open(self, array, sides):
        """Opened, the store tells one of the sides; opened again the same."""
        store = open_store(array)
        told = told_by(store), store.free()
        self.assertIn(told, sides)
        self.same(looks(array), ("whole",) * array.rows)
        before = seen(array)
        again = open_store(array)
        self.same((told_by(again), again.free()), told)
        self.same(seen(array), before)
        return told

    def hold_stop(self, array, code, many, came, sides, more=()):
        """The code is stopped, more shelves are lost, and the store is opened."""
        torn = twin(array)
        stopped(torn, code, many, came)
        lose_all(torn, more)
        if many < len(code) - 1:
            sides = sides[:1]
        elif many == len(code):
            sides = sides[1:]
        return self.hold_open(torn, sides)

    def hold_all_stops(self, store, deed, step=1):
        code = store.code(deed)
        sides = self.sides(store, deed)
        for many in range(len(code) + 1):
            torn = code[many] if many < len(code) else ()
            for came in list(rising(range(len(torn))))[::step if many < len(code) - 1 else 1]:
                self.hold_stop(store.array, code, many, came, sides)
        self.same(self.hold_stop(store.array, code, 0, (), sides), sides[0])
        self.same(self.hold_stop(store.array, code, len(code), (), sides), sides[1])

    def test_each_deed_with_every_set_of_writes(self):
        for shape, step in ((BARE, 1), (COPIES, 5), (ONE, 11)):
            store = ground(shape)
            for deed in EACH:
                with self.subTest(shape=shape, deed=deed):
                    self.hold_all_stops(store, deed, step)

    def test_shelves_lost_ahead(self):
        for shape in (COPIES, ONE, TWO):
            store = ground(shape)
            some = list(losses(shape, shape[4]))[1::3]
            for at, deed in enumerate(EACH):
                lose = some[at % len(some)]
                with self.subTest(shape=shape, deed=deed, lose=lose):
                    lost = with_losses(store.array, lose)
                    self.hold_all_stops(open_store(lost), deed, 17)
                    self.same(unkept(lost), lose)

    def test_shelves_lost_at_the_stop(self):
        """The code goes on while a shelf is lost, and more are lost ahead of opening."""
        numbers = Numbers(3)
        for shape in (COPIES, ONE, TWO):
            store = ground(shape)
            for deed in EACH:
                code = store.code(deed)
                sides = self.sides(store, deed)
                for many in range(len(code) + 1):
                    torn = code[many] if many < len(code) else ()
                    for lost in list(losses(shape, shape[4]))[numbers.below(2)::6]:
                        came = tuple(index for index in range(len(torn)) if numbers.below(2))
                        self.hold_stop(store.array, code, many, came, sides, lost)

    def test_lost_within_the_code(self):
        numbers = Numbers(5)
        for shape in (ONE, TWO):
            store = ground(shape)
            for deed in EACH:
                code = store.code(deed)
                sides = self.sides(store, deed)
                for _ in range(6):
                    torn = twin(store.array)
                    first = numbers.below(len(code))
                    do(torn, code[:first])
                    torn.lose(numbers.below(shelves(shape)))
                    many = numbers.below(len(code) - first + 1)
                    rest = code[first:]
                    batch = rest[many] if many < len(rest) else ()
                    stopped(torn, rest, many, tuple(index for index in range(len(batch)) if numbers.below(2)))
                    self.hold_open(torn, sides)

    def test_lost_behind_the_stop_and_behind_the_opening(self):
        numbers = Numbers(7)
        for shape in (COPIES, ONE, TWO):
            store = ground(shape)
            for deed in EACH:
                code = store.code(deed)
                sides = self.sides(store, deed)
                many = len(code) - 1
                for came in list(rising(range(len(code[many]))))[::4]:
                    torn = twin(store.array)
                    stopped(torn, code, many, came)
                    told = self.hold_open(torn, sides)
                    torn.lose(numbers.below(shelves(shape)))
                    self.same(self.hold_open(torn, sides), told)

    def test_the_scrub_stopped_and_begun_again(self):
        numbers = Numbers(11)
        for shape in (COPIES, ONE, TWO):
            store = ground(shape)
            for deed in EACH:
                code = store.code(deed)
                sides = self.sides(store, deed)
                for came in list(rising(range(len(code[-1]))))[1::7]:
                    torn = twin(store.array)
                    stopped(torn, code, len(code) - 1, came)
                    told = None
                    for _ in range(3):
                        mends = scrub(torn)
                        many = numbers.below(len(mends) + 1)
                        batch = mends[many] if many < len(mends) else ()
                        stopped(torn, mends, many, tuple(index for index in range(len(batch)) if numbers.below(2)))
                        now = self.hold_open(twin(torn), sides)
                        self.assertIn(told, (None, now))
                        told = now
                    self.same(self.hold_open(torn, sides), told)

    def test_replaced_and_filled_behind_a_stop(self):
        numbers = Numbers(13)
        for shape in (ONE, TWO):
            store = ground(shape)
            for deed in EACH:
                code = store.code(deed)
                sides = self.sides(store, deed)
                torn = twin(store.array)
                shelf = numbers.below(shelves(shape))
                torn.lose(shelf)
                stopped(torn, code, len(code) - 1, (0,))
                torn.replace(shelf, numbers.matrix(24, 8, shape[0]))
                told = self.hold_open(torn, sides)
                do(torn, fill(torn))
                trust(torn)
                self.same(unkept(torn), ())
                torn.lose((shelf + 1) % shelves(shape))
                self.same(self.hold_open(torn, sides), told)

    def test_laying_again_and_again(self):
        store = ground(ONE)
        code = store.code(("make_file", "/g"))
        stopped(store.array, code, len(code) - 1, (0, 1))
        again = lay_store(store.array)
        self.same((told_by(again), again.free()), (((None, (2, (), None)), ()), 45))

    def test_a_batch_more_than_the_writes_is_none(self):
        """Each new cell is a batch of its own and the TOP the last one; a cell that lies there already is none."""
        store = ground(BARE)
        code = store.code(("make_file", "/g"))
        self.same(len(code), store.needed(("make_file", "/g")) + 1)
        do(store.array, code[:-1])
        again = store.code(("make_file", "/g"))
        self.same(again, code[-1:])


class Scripts(Refusing):
    """Drawn deeds, many of them stopped, with shelves that are lost and replaced, beside the model."""

    def run_script(self, seed, shape, rows, many):
        drawn = Drawn(seed, shape[0], longest=12)
        numbers = drawn.numbers
        array = Array(shape, rows)
        store = lay_store(array)
        model = model_of(store)
        ways = {"done": 0, "stopped": 0, "ahead": 0, "behind": 0}
        for _ in range(many):
            self.turn_shelves(numbers, array)
            deed = drawn.deed(model.root)
            ahead = model_told(model)
            try:
                model.do(deed)
            except ModelRefused:
                continue
            code = store.code(deed)
            if numbers.below(2) or not code:
                do(array, code)
                ways["done"] += 1
                self.same(told_by(store), model_told(model))
                continue
            last = numbers.below(2) and len(code) - 1
            batches = last if last else numbers.below(len(code))
            came = tuple(index for index in range(len(code[batches])) if numbers.below(2))
            stopped(array, code, batches, came)
            ways["stopped"] += 1
            self.turn_shelves(numbers, array)
            store = open_store(array)
            told = told_by(store)
            self.assertIn(told, (ahead, model_told(model)))
            ways["ahead" if told == ahead else "behind"] += 1
            if told == ahead != model_told(model):
                # The model has done the deed; the deed is done once more.
                do(array, store.code(deed))
                self.same(told_by(store), model_told(model))
        self.same(told_by(open_store(array)), model_told(model))
        return ways

    def turn_shelves(self, numbers, array):
        e, count = array.shape[4], shelves(array.shape)
        shelf = numbers.below(count)
        if numbers.below(6) == 0 and len(unkept(array)) < e:
            array.lose(shelf)
        elif array.state(shelf) == "lost" and numbers.below(2):
            array.replace(shelf, numbers.matrix(array.rows, array.shape[1], array.shape[0]))
        elif array.state(shelf) == "filling" and numbers.below(2):
            do(array, fill(array))
            trust(array)

    def test_scripts(self):
        ways = {}
        for seed, shape, rows in ((1, COPIES, 60), (2, ONE, 40), (3, TWO, 40), (4, BARE, 60), (5, TWO, 20)):
            for way, many in self.run_script(seed, shape, rows, 70).items():
                ways[way] = ways.get(way, 0) + many
        self.assertGreater(min(ways.values()), 10, ways)


if __name__ == "__main__":
    unittest.main()
