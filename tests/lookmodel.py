"""The looker once more, written straight from the document's words and by recursion, to hold the program against."""

SIGNS = "abcdefghijklmnopqrstuvwxyz0123456789_-/"


class Fault(Exception):
    pass


def listed_fault(look, many):
    """The first fault as [77] to [79] tell it, or None."""
    try:
        Looker(look, many).walk()
    except Fault as fault:
        return fault.args
    return None


class Looker:
    def __init__(self, look, many):
        self.look = look
        self.many = many
        self.room = len(look(0)) - 1

    def ask(self, held, address, word):
        if not held:
            raise Fault(address, word)

    def right(self, pointer):
        return 1 <= pointer <= self.many - 1

    def depth_of(self, size):
        depth = 0
        while size > 0 and (depth == 0 or self.room**depth < size):
            depth += 1
        return depth

    def depth_let(self, depth):
        return depth >= 1 and (depth < 400 and self.room ** (depth - 1) < self.many)

    def walk(self):
        top = self.look(0)
        self.ask(top[0] == 1, 0, "top")
        self.ask(all(word == 0 for word in top[6:]), 0, "top")
        _, things, depth, snaps, snaps_depth, size = top[:6]
        self.ask(snaps_depth == self.depth_of(size) and (size > 0 or snaps == 0), 0, "top")
        self.ask(self.right(things) and self.depth_let(depth), 0, "top")
        words = {}
        self.content(0, snaps, snaps_depth, 0, size, set(), words)
        roots = [(things, depth)]
        for _, (pointer, snap_depth) in self.named(words, size, 2, 0):
            self.ask(self.right(pointer) and self.depth_let(snap_depth), 0, "entries")
            roots.append((pointer, snap_depth))
        for pointer, tree_depth in roots:
            self.tree(pointer, tree_depth)

    def named(self, words, size, many, address):
        rows, at = [], 0
        while at < size:
            length = words.get(at, 0)
            self.ask(1 <= length <= 12 and at + 1 + length + many <= size, address, "entries")
            name = [words.get(place, 0) for place in range(at + 1, at + 1 + length)]
            self.ask(all(0 <= sign <= 37 for sign in name), address, "entries")
            self.ask(not rows or rows[-1][0] < name, address, "entries")
            at += 1 + length + many
            rows.append((name, [words.get(place, 0) for place in range(at - many, at)]))
        return rows

    def follow(self, holder, pointer, led):
        """Whether a pointer leads to a cell; it is asked whether it may."""
        if pointer == 0:
            return False
        self.ask(self.right(pointer) and pointer not in led, holder, "pointer")
        led.add(pointer)
        return True

    def content(self, holder, pointer, depth, start, size, led, words):
        if not self.follow(holder, pointer, led):
            return
        cell = self.look(pointer)
        self.ask(cell[0] == (4 if depth == 1 else 3), pointer, "kind")
        span = self.room ** (depth - 1)
        self.ask(any(cell[1:]), pointer, "shape")
        for at, part in enumerate(cell[1:]):
            self.ask(part == 0 or start + at * span < size, pointer, "shape")
        for at, part in enumerate(cell[1:]):
            if depth == 1:
                words[start + at] = part
            else:
                self.content(pointer, part, depth - 1, start + at * span, size, led, words)

    def tree(self, pointer, depth):
        things = {}
        self.inner(pointer, depth, 0, {pointer}, things)
        self.whole(pointer, depth, things)

    def inner(self, address, depth, first, led, things):
        cell = self.look(address)
        self.ask(cell[0] == 3, address, "kind")
        span = self.room ** (depth - 1)
        self.ask(any(cell[1:]), address, "shape")
        for at, part in enumerate(cell[1:]):
            least = first + at * span
            self.ask(part == 0 or least < self.many and (depth > 1 or least > 0), address, "shape")
        for at, part in enumerate(cell[1:]):
            if self.follow(address, part, led):
                if depth == 1:
                    things[first + at] = self.thing(part, led)
                else:
                    self.inner(part, depth - 1, first + at * span, led, things)

    def thing(self, address, led):
        cell = self.look(address)
        self.ask(cell[0] == 2, address, "kind")
        _, form, names, size, pointer, depth, limit = cell[:7]
        self.ask(form in (1, 2, 3), address, "shape")
        self.ask(depth == self.depth_of(size) and (size > 0 or pointer == 0), address, "shape")
        self.ask(limit == 0 or form == 2, address, "shape")
        self.ask(not any(cell[7:]), address, "shape")
        words = {}
        self.content(address, pointer, depth, 0, size, led, words)
        entries = []
        if form == 2:
            entries = [number for _, (number,) in self.named(words, size, 1, address)]
            self.ask(all(self.right(number) for number in entries), address, "entries")
        if form == 3:
            self.ask(size <= 300 and self.is_path([words.get(at, 0) for at in range(size)]), address, "entries")
        return address, form, names, size, limit, entries

    def is_path(self, numbers):
        if not all(0 <= number <= 38 for number in numbers):
            return False
        text = "".join(SIGNS[number] for number in numbers)
        names = text.split("/")
        return text == "/" or names[0] == "" and 2 <= len(names) <= 21 and all(1 <= len(name) <= 12 for name in names[1:])

    def whole(self, root, depth, things):
        least = 1
        while self.room**least <= max(things):
            least += 1
        self.ask(depth == least, root, "shape")
        self.ask(1 in things, 0, "count")
        led = [number for _, _, _, _, _, entries in things.values() for number in entries]
        for number in sorted(things):
            address, form, names, _, _, entries = things[number]
            self.ask(all(other in things for other in entries), address, "count")
            self.ask(number != 1 or form == 2, address, "count")
            self.ask(names == (1 if number == 1 else led.count(number)) and names != 0, address, "count")
        found = self.beneath(things, 1) | {1}
        for number in sorted(things):
            address, form = things[number][:2]
            if form == 2:
                self.ask(led.count(number) == (0 if number == 1 else 1) and number in found, address, "ring")
        for number in sorted(things):
            address, form, _, _, limit, _ = things[number]
            if limit:
                used = sum(things[other][3] for other in self.beneath(things, number) if things[other][1] == 1)
                self.ask(used <= limit - 1, address, "limit")

    def beneath(self, things, number):
        found, waiting = set(), [number]
        while waiting:
            for other in things[waiting.pop()][5]:
                if other not in found:
                    found.add(other)
                    waiting.append(other)
        return found
