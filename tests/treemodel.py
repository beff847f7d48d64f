"""A plain model of a store: files, folders and signposts as objects, and its cells by their places alone.

It tells what a deed does, or how it is refused, without any array. Cells are told as a dict that leads from a place
to a pair of what lies there, with all beneath it, and a number that tells one laying from another.
"""

import copy

SIGNS = "abcdefghijklmnopqrstuvwxyz0123456789_-/"


class ModelRefused(Exception):
    """A deed is refused, with the name of an error and its what."""

    def __init__(self, name, what):
        super().__init__(name, what)
        self.name = name
        self.what = what


class Node:
    def __init__(self, number, kind):
        self.number = number
        self.kind = kind
        self.words = []
        self.text = None
        self.entries = {}
        self.limit = None


def order(name):
    return [SIGNS.index(sign) for sign in name]


def parts(path):
    return path.split("/")[1:] if path != "/" else []


def nodes_of(root):
    """All nodes by number, each once."""
    found = {}

    def go(node):
        if node.number not in found:
            found[node.number] = node
            for other in node.entries.values():
                go(other)

    go(root)
    return found


def paths_of(root):
    """The paths of all names and their kinds, "/" first, but for those with more than 20 names."""
    rows = []

    def go(path, node):
        rows.append((path or "/", node.kind))
        for name in sorted(node.entries, key=order):
            if path.count("/") < 20:
                go(path + "/" + name, node.entries[name])

    go("", root)
    return rows


def plain_of(root):
    nodes = nodes_of(root)
    rows = [None] * (max(nodes) + 1)
    for number, node in nodes.items():
        if node.kind == "file":
            rows[number] = (1, tuple(node.words), None)
        elif node.kind == "folder":
            names = sorted(node.entries, key=order)
            rows[number] = (2, tuple((name, node.entries[name].number) for name in names), node.limit)
        else:
            rows[number] = (3, node.text, None)
    return tuple(rows)


def node_words(node):
    """The words of a node's content."""
    if node.kind == "file":
        return list(node.words)
    if node.kind == "signpost":
        return order(node.text)
    words = []
    for name in sorted(node.entries, key=order):
        words += [len(name)] + order(name) + [node.entries[name].number]
    return words


def depth_of(wide, size):
    depth = 0
    while size and (wide - 1) ** max(depth, 1) < size or size and depth == 0:
        depth += 1
    return depth


def content_shape(wide, words, key):
    """A dict by place (key, level, index) of all cells of a content, each with what lies beneath it."""
    room = wide - 1
    cells = {}

    def lay(level, index):
        span = room**level
        piece = words[index * span:(index + 1) * span]
        if not any(piece):
            return None
        if level == 1:
            made = ("leaf", tuple(piece) + (0,) * (room - len(piece)))
        else:
            made = ("inner", tuple(lay(level - 1, index * room + at) for at in range(room)))
        cells[key, level, index] = made
        return made

    if words:
        lay(depth_of(wide, len(words)), 0)
    return cells


def tree_shape(wide, root):
    """A dict by place of all cells of a things tree, each with what lies beneath it."""
    room = wide - 1
    nodes = nodes_of(root)
    cells = {}
    names = {}
    for node in nodes.values():
        for other in node.entries.values():
            names[other.number] = names.get(other.number, 0) + 1
    for number, node in nodes.items():
        words = node_words(node)
        content = content_shape(wide, words, ("content", number))
        cells.update(content)
        top = content.get((("content", number), depth_of(wide, len(words)), 0))
        count = 1 if number == 1 else names[number]
        cells["thing", number] = ("thing", node.kind, count, len(words), top, node.limit)
    level = 1
    pointers = [cells.get(("thing", number)) for number in range(max(nodes) + 1)]
    while level == 1 or len(pointers) > 1:
        rows = [tuple(pointers[start:start + room]) for start in range(0, len(pointers), room)]
        rows = [row + (None,) * (room - len(row)) for row in rows]
        pointers = [("inner", row) if any(row) else None for row in rows]
        for index, made in enumerate(pointers):
            if made:
                cells["things", level, index] = made
        level += 1
    return cells


def root_place(wide, root):
    return "things", max(1, depth_of(wide, max(nodes_of(root)) + 1)), 0


class Model:
    """A store with so many addresses, cells of so many words and a prime."""

    def __init__(self, prime, wide, many):
        self.prime = prime
        self.wide = wide
        self.many = many
        self.made = 0
        self.root = Node(1, "folder")
        self.live = self.laid({}, tree_shape(wide, self.root))
        # By name the root, the cells and the number of the topmost cell of a snapshot.
        self.snapshots = {}
        self.snaps = {}

    def laid(self, old, shape):
        """The cells of a shape: those that lie there already are the old ones."""
        cells = {}
        for place in sorted(shape, key=repr):
            if place in old and old[place][0] == shape[place]:
                cells[place] = old[place]
            else:
                self.made += 1
                cells[place] = (shape[place], self.made)
        return cells

    def reached(self):
        found = {number for _, number in self.live.values()} | {number for _, number in self.snaps.values()}
        for _, cells in self.snapshots.values():
            found |= {number for _, number in cells.values()}
        return len(found) + 1

    def free(self):
        return self.many - self.reached()

    def names(self):
        return tuple(sorted(self.snapshots, key=order))

    def plain(self, of=None):
        return plain_of(self.root if of is None else self.snapshots[of][0])

    def snaps_words(self, snapshots):
        words = []
        for name in sorted(snapshots, key=order):
            root, cells = snapshots[name]
            place = root_place(self.wide, root)
            words += [len(name)] + order(name) + [cells[place][1], place[1]]
        return words

    def do(self, deed):
        """Do a deed and return how many new cells it wants; raise ModelRefused and change nothing."""
        kept = (copy.deepcopy(self.root), self.live, self.snaps, dict(self.snapshots), self.made)
        try:
            return self.tried(deed)
        except ModelRefused:
            self.root, self.live, self.snaps, self.snapshots, self.made = kept
            raise

    def tried(self, deed):
        ahead = self.made
        room = self.free()
        if deed[0] == "back":
            return self.do_back(deed[1])
        if deed[0] in ("snap", "forget", "forget_all"):
            self.do_snapshot(deed)
        else:
            getattr(self, "do_" + deed[0])(*deed[1:])
            self.check_limits()
            self.live = self.laid(self.live, tree_shape(self.wide, self.root))
        if self.made - ahead > room:
            raise ModelRefused("NoRoom", self.made - ahead)
        return self.made - ahead

    def do_back(self, name):
        self.check_name(name)
        if name not in self.snapshots:
            raise ModelRefused("NoSnapshot", name)
        root, cells = self.snapshots[name]
        if plain_of(root) != plain_of(self.root):
            self.root, self.live = copy.deepcopy(root), cells
        return 0

    def do_snapshot(self, deed):
        if deed[0] == "forget_all":
            self.snapshots = {}
        else:
            name = deed[1]
            self.check_name(name)
            if deed[0] == "snap":
                if name in self.snapshots:
                    raise ModelRefused("HasSnapshot", name)
                self.snapshots = {**self.snapshots, name: (copy.deepcopy(self.root), self.live)}
            else:
                if name not in self.snapshots:
                    raise ModelRefused("NoSnapshot", name)
                self.snapshots = {other: kept for other, kept in self.snapshots.items() if other != name}
        words = self.snaps_words(self.snapshots)
        self.check_size(len(words))
        self.snaps = self.laid(self.snaps, content_shape(self.wide, words, "snaps"))

    def check_name(self, name):
        if not is_name(name):
            raise ModelRefused("BadName", name)

    def check_path(self, path):
        if not isinstance(path, str) or path != "/" and not (path.startswith("/") and self.are_names(parts(path))):
            raise ModelRefused("BadPath", path)

    def are_names(self, names):
        return 1 <= len(names) <= 20 and all(is_name(name) for name in names)

    def check_size(self, size):
        if size > self.prime - 1:
            raise ModelRefused("TooLong", size)

    def check_node(self, node):
        self.check_size(len(node_words(node)))

    def lead(self, path, names, followed):
        """The node to which the names lead that stand for a path."""
        steps = 0
        trail = list(names)
        node = self.root
        while trail or followed and node.kind == "signpost":
            if node.kind == "signpost":
                steps += 1
                if steps == 9:
                    raise ModelRefused("Loop", path)
                trail[:0] = parts(node.text)
                node = self.root
                continue
            if node.kind == "file":
                raise ModelRefused("NotFolder", path)
            name = trail.pop(0)
            if name not in node.entries:
                raise ModelRefused("NoThing", path)
            node = node.entries[name]
        return node

    def holder(self, path):
        folder = self.lead(path, parts(path)[:-1], True)
        if folder.kind != "folder":
            raise ModelRefused("NotFolder", path)
        return folder

    def to_be_made(self, path):
        if path == "/":
            raise ModelRefused("There", path)
        folder = self.holder(path)
        if parts(path)[-1] in folder.entries:
            raise ModelRefused("There", path)
        return folder, parts(path)[-1]

    def make(self, path, kind, text=None):
        folder, name = self.to_be_made(path)
        numbers = nodes_of(self.root)
        node = Node(min(number for number in range(1, len(numbers) + 2) if number not in numbers), kind)
        node.text = text
        folder.entries[name] = node
        self.check_node(node)
        self.check_node(folder)

    def do_make_file(self, path):
        self.check_path(path)
        self.make(path, "file")

    def do_make_folder(self, path):
        self.check_path(path)
        self.make(path, "folder")

    def do_signpost(self, text, path):
        self.check_path(text)
        self.check_path(path)
        self.make(path, "signpost", text)

    def file(self, path):
        node = self.lead(path, parts(path), True)
        if node.kind != "file":
            raise ModelRefused("NotFile", path)
        return node

    def do_write(self, path, at, words):
        self.check_path(path)
        if not is_number(at) or at < 0:
            raise ModelRefused("BadRange", at)
        if not isinstance(words, tuple):
            raise ModelRefused("BadWords", -1)
        for index, word in enumerate(words):
            if not is_number(word) or not 0 <= word < self.prime:
                raise ModelRefused("BadWords", index)
        node = self.file(path)
        if words:
            self.check_size(max(at + len(words), len(node.words)))
            node.words += [0] * (at - len(node.words))
            node.words[at:at + len(words)] = words

    def do_cut(self, path, size):
        self.check_path(path)
        if not is_number(size) or size < 0:
            raise ModelRefused("BadSize", size)
        node = self.file(path)
        self.check_size(size)
        node.words = (node.words + [0] * size)[:size]

    def do_drop(self, path):
        self.check_path(path)
        if path == "/":
            raise ModelRefused("Top", path)
        folder, name = self.holder(path), parts(path)[-1]
        if name not in folder.entries:
            raise ModelRefused("NoThing", path)
        if folder.entries[name].entries:
            raise ModelRefused("NotEmpty", path)
        del folder.entries[name]

    def do_link(self, path, new):
        self.check_path(path)
        self.check_path(new)
        node = self.lead(path, parts(path), False)
        folder, name = self.to_be_made(new)
        if node.kind != "file":
            raise ModelRefused("NotFile", path)
        names = [other for holder in nodes_of(self.root).values() for other in holder.entries.values() if other is node]
        if len(names) == self.prime - 1:
            raise ModelRefused("TooMany", self.prime)
        folder.entries[name] = node
        self.check_node(folder)

    def do_move(self, path, new):
        self.check_path(path)
        self.check_path(new)
        node = self.lead(path, parts(path), False)
        folder, name = self.to_be_made(new)
        if path == "/":
            raise ModelRefused("Top", path)
        if node.kind == "folder" and folder in nodes_of(node).values():
            raise ModelRefused("Within", path)
        del self.holder(path).entries[parts(path)[-1]]
        folder.entries[name] = node
        self.check_node(folder)

    def do_limit(self, path, words):
        self.check_path(path)
        if words is not None and not (is_number(words) and 0 <= words <= self.prime - 2):
            raise ModelRefused("BadLimit", words)
        node = self.lead(path, parts(path), True)
        if node.kind != "folder":
            raise ModelRefused("NotFolder", path)
        if words is not None and self.used(node) > words:
            raise ModelRefused("OverLimit", path)
        node.limit = words

    def used(self, folder):
        return sum(len(node.words) for node in nodes_of(folder).values())

    def check_limits(self):
        def go(path, node):
            if node.limit is not None and self.used(node) > node.limit:
                raise ModelRefused("OverLimit", path or "/")
            for name in sorted(node.entries, key=order):
                go(path + "/" + name, node.entries[name])

        go("", self.root)


def is_number(thing):
    return isinstance(thing, int) and not isinstance(thing, bool)


def is_name(thing):
    return isinstance(thing, str) and 1 <= len(thing) <= 12 and all(sign in SIGNS[:-1] for sign in thing)
