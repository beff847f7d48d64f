"""Stores for tests: arrays that can carry one, all that a store tells, and deeds that look as if by chance."""

from sumstand.filestore import lay_store
from sumstand.shelves import Array
from tests.helpers import GREAT_TABLE, Numbers
from tests.treemodel import Model, paths_of

# Shapes with cells of 8 numbers: without sums, with copies, with one loss and with two losses that are stood.
BARE = (257, 8, 1, (), 0)
COPIES = (257, 8, 1, ((1,), (1,), (1,)), 1)
ONE = (257, 8, 2, ((1, 1), (1, 5), (1, 9)), 1)
TWO = (65521, 8, 2, tuple(row[:2] for row in GREAT_TABLE[:4]), 2)

WORDS = (
    "make_file", "make_folder", "signpost", "write", "cut", "drop", "link", "move", "limit",
    "snap", "forget", "forget_all", "back",
)


def bare(many, p=257, wide=8):
    """An array without sums with so many addresses, up to 64 times 6."""
    n = next(n for n in range(1, 7) if many % n == 0 and many // n <= 64)
    return Array((p, wide, n, (), 0), many // n)


def empty(many, p=257, wide=8):
    return lay_store(bare(many, p, wide))


def filled_store(many, *deeds, p=257, wide=8):
    """A store of so many addresses in which these deeds were done."""
    store = empty(many, p, wide)
    for deed in deeds:
        do_deed(store, deed)
    return store


def do_deed(store, deed):
    """Do a deed as a value by the method of its word."""
    return getattr(store, deed[0])(*deed[1:])


def told_by(store):
    """What a store tells: its tree and all snapshots by name."""
    return store.tree(), tuple((name, store.tree(name)) for name in store.snapshots())


def model_told(model):
    return model.plain(), tuple((name, model.plain(name)) for name in model.names())


def model_of(store):
    return Model(store.prime, store.wide, store.many())


class Drawn:
    """Deeds that look as if by chance, often of names that are there; some of them wrong."""

    def __init__(self, seed, p=257, names=("a", "b", "c0", "_", "z"), longest=30):
        self.numbers = Numbers(seed)
        self.p = p
        self.names = names
        self.longest = longest
        # The paths that are there with their kinds, when a deed is drawn.
        self.there = []

    def one_of(self, things):
        return things[self.numbers.below(len(things))]

    def any_path(self, deep=3):
        many = self.numbers.below(deep + 1)
        return "".join("/" + self.one_of(self.names) for _ in range(many)) or self.one_of(("/", "/a", "/b"))

    def path(self, *kinds):
        """A path that is there, of one of these kinds if there are any."""
        found = [path for path, kind in self.there if not kinds or kind in kinds]
        return self.one_of(found) if found and self.numbers.below(8) else self.any_path()

    def new(self):
        """A path at which something may be made."""
        folder = self.path("folder", "folder", "signpost")
        return self.any_path() if self.numbers.below(8) == 0 else folder.rstrip("/") + "/" + self.one_of(self.names)

    def name(self):
        return self.one_of(("s", "t", "u1", "_"))

    def words(self):
        many = self.numbers.below(self.longest)
        kind = self.numbers.below(3)
        return tuple(self.numbers.below(self.p) * self.numbers.below(2) if kind else 0 for _ in range(many))

    def size(self):
        return self.numbers.below((4, self.longest, self.p + 3)[min(2, self.numbers.below(9) // 4)])

    def deed(self, root):
        """A deed, in a store with this root of the model."""
        self.there = paths_of(root)
        word = self.one_of(WORDS)
        if word == "forget_all" and self.numbers.below(4):
            word = "make_file"
        if word in ("make_file", "make_folder"):
            return word, self.new()
        if word == "drop":
            return word, self.path("file", "signpost") if self.numbers.below(3) else self.path()
        if word == "link":
            return word, self.path("file"), self.new()
        if word == "move":
            return word, self.path(), self.new()
        if word == "signpost":
            return word, self.path() if self.numbers.below(2) else self.any_path(), self.new()
        if word == "write":
            return word, self.path("file", "signpost"), self.size(), self.words()
        if word == "cut":
            return word, self.path("file", "signpost"), self.size()
        if word == "limit":
            return word, self.path("folder"), self.one_of((None, self.size(), self.size()))
        return (word,) if word == "forget_all" else (word, self.name())

    def wrong(self, root):
        """A deed of which an argument is wrong, or two are."""
        deed = list(self.deed(root))
        odd = (None, True, "", "a", "/A", "//", "/a/", -1, (), ((),), (-1,), (0, True), (self.p,), "a" * 13, 10**999)
        for _ in range(1 + self.numbers.below(2)):
            if len(deed) > 1:
                deed[1 + self.numbers.below(len(deed) - 1)] = self.one_of(odd)
        return tuple(deed)
