"""The walk through the cells of a store: contents and things trees, each cell ahead of those beneath it.

led is a dict of the addresses to which pointers of the same tree have led already. What is wrong raises NotSound
with the address at which it is seen, and the word that tells it.
"""

from sumstand.contents import INNER, LEAF, THING, least_depth, span_of
from sumstand.errors import NotSound
from sumstand.paths import LONGEST_PATH, is_path
from sumstand.signs import SIGNS, text_of
from sumstand.things import FILE, FOLDER, SIGNPOST, named_rows


class Looked:
    """A thing that the walk came to: where its THING lies, and what this and a folder's entries tell."""

    def __init__(self, address, form, named, length, limit_word, leads_to):
        self.address = address
        self.form = form
        self.named = named
        self.length = length
        # 0 for no limit, else the limit plus 1.
        self.limit_word = limit_word
        # The numbers of the things to which the entries lead, in their order.
        self.leads_to = leads_to


def is_too_deep(wide, depth, many):
    """Return whether a things tree of so many cells cannot have a depth."""
    if depth < 1:
        return True
    span = 1
    # The span may be far too great to be reckoned.
    while depth > 1 and span < many:
        span *= wide - 1
        depth -= 1
    return span >= many


def check_pointer(led, many, holder, pointer):
    """Raise NotSound unless a pointer of the cell at holder leads to a cell that no other one has led to."""
    if not 1 <= pointer < many or pointer in led:
        raise NotSound((holder, "pointer"))
    led[pointer] = True


def check_kind(words, kind, address):
    """Raise NotSound unless the cell at an address has this kind."""
    if words[0] != kind:
        raise NotSound((address, "kind"))


def walk_content(look, wide, many, led, holder, pointer, depth, size):
    """Walk a content; return a dict by index of its words that are not 0."""
    words = {}
    waiting = [(holder, pointer, depth, 0)]
    while waiting:
        above, address, level, start = waiting.pop()
        if address == 0:
            continue
        check_pointer(led, many, above, address)
        found = look(address)
        check_kind(found, LEAF if level == 1 else INNER, address)
        span = span_of(wide, level)
        check_filled(found, address, start, span, size)
        if level == 1:
            words.update({start + at: word for at, word in enumerate(found[1:]) if word != 0})
        else:
            below = [(address, part, level - 1, start + at * span) for at, part in enumerate(found[1:])]
            waiting.extend(below[::-1])
    return words


def check_filled(words, address, start, span, size):
    """Raise NotSound if a content's cell has noughts alone, or tells something behind the content's size."""
    parts = words[1:]
    if not any(parts) or any(part != 0 and start + at * span >= size for at, part in enumerate(parts)):
        raise NotSound((address, "shape"))


def walk_things(look, wide, many, pointer, depth):
    """Walk a things tree; return a dict of its things by number."""
    led = {pointer: True}
    things = {}
    waiting = push_inner(look, wide, many, pointer, depth, 0)
    while waiting:
        holder, address, level, first = waiting.pop()
        check_pointer(led, many, holder, address)
        if level == 0:
            things[first] = walk_thing(look, wide, many, led, address)
        else:
            waiting.extend(push_inner(look, wide, many, address, level, first))
    return things


def push_inner(look, wide, many, address, level, first):
    """Look at an INNER of a things tree; return what is to be walked beneath it, the last part first."""
    found = look(address)
    check_kind(found, INNER, address)
    span = span_of(wide, level)
    below = [(address, part, level - 1, first + at * span) for at, part in enumerate(found[1:]) if part != 0]
    wrong = [start for _, _, lower, start in below if start >= many or (lower == 0 and start == 0)]
    if not below or wrong:
        raise NotSound((address, "shape"))
    return below[::-1]


def walk_thing(look, wide, many, led, address):
    """Walk a THING, its content and its entries; return what it tells."""
    found = look(address)
    check_kind(found, THING, address)
    _, form, names, size, pointer, depth, limit = found[:7]
    wrong = form not in (FILE, FOLDER, SIGNPOST) or depth != least_depth(wide, size) or any(found[7:])
    if wrong or (size == 0 and pointer != 0) or (limit != 0 and form != FOLDER):
        raise NotSound((address, "shape"))
    words = walk_content(look, wide, many, led, address, pointer, depth, size)
    entries = ()
    if form == FOLDER:
        entries = entry_numbers(words, size, many)
    if entries is None or (form == SIGNPOST and not is_path_told(words, size)):
        raise NotSound((address, "entries"))
    return Looked(address, form, names, size, limit, entries)


def entry_numbers(words, size, many):
    """Return the numbers of the things to which the entries lead that words tell, or None."""
    rows = named_rows(words, size, 1)
    if rows is None:
        return None
    numbers = tuple(parts[0] for _, parts in rows)
    return numbers if all(1 <= number < many for number in numbers) else None


def is_path_told(words, size):
    """Return whether the words of a signpost's content are the signs of a path."""
    if size > LONGEST_PATH:
        return False
    numbers = tuple(words.get(at, 0) for at in range(size))
    return all(0 <= number < len(SIGNS) for number in numbers) and is_path(text_of(numbers))
