"""The file store: a tree of files, folders and signposts, with snapshots, on an array."""

from sumstand.batches import do
from sumstand.cellstore import Cells, glance
from sumstand.contents import INNER, THING, TOP, padded
from sumstand.errors import BadGround, BadRange, NotSignpost, NotSound
from sumstand.forms import is_from_nought
from sumstand.loading import root_of, snapshots_at, tree_at
from sumstand.looker import first_fault
from sumstand.paths import check_path, file_at, folder_at, resolve
from sumstand.planning import planned
from sumstand.reaching import reached
from sumstand.scrub import scrub
from sumstand.shelves import told_data
from sumstand.storerows import answer
from sumstand.things import FOLDER, SIGNPOST
from sumstand.trees import entry_counts, used_in

LEAST_PRIME = 257
LEAST_WIDE = 8
LEAST_MANY = 3


class Store:
    """A store of files on an array; it keeps nothing beside the cells."""

    def __init__(self, array):
        self.array = array
        self.cells = Cells(array)
        self.prime = array.shape[0]
        self.wide = array.shape[1]

    def look(self, address):
        """Return the cell at an address."""
        return self.cells.look(address)

    def many(self):
        """Return how many addresses there are; none is so great that a word could not tell it."""
        return min(self.cells.size(), self.prime - 1)

    def code(self, deed):
        """Return the code of a deed."""
        return self.cells.drive(planned(self, deed))

    def make_file(self, path):
        """Make an empty file."""
        do_deed(self, ("make_file", path))

    def make_folder(self, path):
        """Make an empty folder."""
        do_deed(self, ("make_folder", path))

    def signpost(self, text, path):
        """Make a signpost with a text at a path."""
        do_deed(self, ("signpost", text, path))

    def write(self, path, at, words):
        """Give a file words from a place on."""
        do_deed(self, ("write", path, at, words))

    def cut(self, path, size):
        """Give a file another size."""
        do_deed(self, ("cut", path, size))

    def drop(self, path):
        """Take an entry away."""
        do_deed(self, ("drop", path))

    def link(self, path, new):
        """Give a file a further name."""
        do_deed(self, ("link", path, new))

    def move(self, path, new):
        """Give a thing another name in the place of one."""
        do_deed(self, ("move", path, new))

    def limit(self, path, words):
        """Give a folder a limit, or none."""
        do_deed(self, ("limit", path, words))

    def snap(self, name):
        """Keep the tree as a snapshot."""
        do_deed(self, ("snap", name))

    def forget(self, name):
        """Take a snapshot away."""
        do_deed(self, ("forget", name))

    def forget_all(self):
        """Take all snapshots away."""
        do_deed(self, ("forget_all",))

    def back(self, name):
        """Make the tree of a snapshot the live one."""
        do_deed(self, ("back", name))

    def tree(self, of=None):
        """Return the plain tree of a snapshot, the live one without a name."""
        look = glance(self.cells)
        pointer, depth = root_of(look, self.wide, of)
        return tree_at(look, self.wide, pointer, depth)

    def kind(self, path, of=None):
        """Return "file" or "folder"."""
        check_path(path)
        tree = self.tree(of)
        return "folder" if tree[resolve(tree, path, True)][0] == FOLDER else "file"

    def names(self, path, of=None):
        """Return the names in a folder, rising."""
        check_path(path)
        tree = self.tree(of)
        _, entries, _ = tree[folder_at(tree, path)]
        return tuple(name for name, _ in entries)

    def size(self, path, of=None):
        """Return how many words a file has."""
        check_path(path)
        tree = self.tree(of)
        return len(tree[file_at(tree, path)][1])

    def links(self, path, of=None):
        """Return how many names a file has."""
        check_path(path)
        tree = self.tree(of)
        return entry_counts(tree)[file_at(tree, path)]

    def read(self, path, at, many, of=None):
        """Return the words of a file from a place on, as many as there are up to many."""
        check_path(path)
        check_range(at)
        check_range(many)
        tree = self.tree(of)
        return tree[file_at(tree, path)][1][at:at + many]

    def target(self, path, of=None):
        """Return the text of a signpost."""
        check_path(path)
        tree = self.tree(of)
        form, body, _ = tree[resolve(tree, path, False)]
        if form != SIGNPOST:
            raise NotSignpost(path)
        return body

    def used(self, path, of=None):
        """Return how many words the files beneath a folder have, each file once."""
        check_path(path)
        tree = self.tree(of)
        return used_in(tree, folder_at(tree, path))

    def limit_of(self, path, of=None):
        """Return the limit of a folder, or None."""
        check_path(path)
        tree = self.tree(of)
        return tree[folder_at(tree, path)][2]

    def snapshots(self):
        """Return the names of the snapshots, rising."""
        return tuple(name for name, _, _ in snapshots_at(glance(self.cells), self.wide))

    def free(self):
        """Return how many addresses are free."""
        return self.many() - len(reached(glance(self.cells), self.wide))

    def needed(self, deed):
        """Return how many new cells a deed wants, the TOP not counted."""
        return max(0, len(planned(self, deed)) - 1)

    def row(self, text):
        """Do or answer a row of text, and return the answer."""
        return answer(self, text)


def lay_store(array):
    """Lay an empty store on an array."""
    check_ground(array)
    do(array, scrub(array))
    store = Store(array)
    folder = padded((THING, FOLDER, 1), store.wide)
    inner = padded((INNER, 0, 1), store.wide)
    do(array, store.cells.drive(((1, folder), (2, inner), (0, padded((TOP, 2, 1), store.wide)))))
    return store


def open_store(array):
    """Return the store that lies on an array; raise NotSound if none does."""
    check_ground(array)
    code = scrub(array)
    store = Store(array)
    # What is told of torn rows is what they have behind the mend, so that nothing is written for a store unsound.
    fault = first_fault(told_cells(array), store.many())
    if fault is not None:
        raise NotSound(fault)
    do(array, code)
    return store


def told_cells(array):
    """Return a function that returns the cell that is told at an address, also of a torn row."""
    told = [told_data(array, row) for row in range(array.rows)]

    def look(a):
        x, row = divmod(a, len(told))
        return told[row][x]

    return look


def check_ground(array):
    """Raise BadGround unless an array can carry a store."""
    p, wide, n, _, _ = array.shape
    if p < LEAST_PRIME:
        raise BadGround(0)
    if wide < LEAST_WIDE:
        raise BadGround(1)
    if not LEAST_MANY <= n * array.rows < p:
        raise BadGround(2)


def check_range(number):
    """Raise BadRange unless number is a number from 0 on."""
    if not is_from_nought(number):
        raise BadRange(number)


def do_deed(store, deed):
    """Do all that a deed writes."""
    do(store.array, store.code(deed))
