"""Plain trees: a tuple by number of things (form, body, limit), None where no thing has the number."""

from sumstand.errors import TooLong
from sumstand.signs import numbers_of
from sumstand.things import FILE, FOLDER, thing_words


def with_thing(tree, number, thing):
    """Return the tree with another thing of a number, or without one for None."""
    longer = list(tree) + [None] * (number + 1 - len(tree))
    longer[number] = thing
    # The thing 1 is always there.
    while longer[-1] is None:
        longer.pop()
    return tuple(longer)


def least_number(tree):
    """Return the least number that no thing of the tree has."""
    for number in range(1, len(tree)):
        if tree[number] is None:
            return number
    return len(tree)


def entry_in(entries, name):
    """Return the number of the thing to which a name leads among entries, or None."""
    for other, number in entries:
        if other == name:
            return number
    return None


def with_entry(tree, folder, name, number):
    """Return the tree with an entry more in a folder."""
    form, entries, limit = tree[folder]
    ahead = tuple(entry for entry in entries if numbers_of(entry[0]) < numbers_of(name))
    return with_thing(tree, folder, (form, ahead + ((name, number),) + entries[len(ahead):], limit))


def without_entry(tree, folder, name):
    """Return the tree without an entry of a folder; what it led to stays."""
    form, entries, limit = tree[folder]
    return with_thing(tree, folder, (form, tuple(entry for entry in entries if entry[0] != name), limit))


def check_long(tree, prime, number):
    """Raise TooLong if the content of a thing of the tree is too long for one word to tell its size."""
    check_size(prime, len(thing_words(tree[number])))


def check_size(prime, size):
    """Raise TooLong if a size is too great for one word."""
    if size > prime - 1:
        raise TooLong(size)


def entry_counts(tree):
    """Return a dict that tells for each number how many entries lead to it, without those to which none leads."""
    counts = {}
    for thing in tree:
        if thing is not None and thing[0] == FOLDER:
            for _, number in thing[1]:
                counts[number] = counts.get(number, 0) + 1
    return counts


def beneath(tree, folder):
    """Return the numbers of all things beneath a folder, each once."""
    found = {}
    waiting = [folder]
    while waiting:
        form, body, _ = tree[waiting.pop()]
        if form != FOLDER:
            continue
        for _, number in body:
            if number not in found:
                found[number] = True
                waiting.append(number)
    return list(found)


def used_in(tree, folder):
    """Return how many words the files beneath a folder have, each file once."""
    return sum(len(tree[number][1]) for number in beneath(tree, folder) if tree[number][0] == FILE)


def walked(tree):
    """Return the path and the number of each name, "/" first: names rising, what is in a folder at once behind it."""
    rows = []
    waiting = [("/", 1)]
    while waiting:
        path, number = waiting.pop()
        rows.append((path, number))
        form, body, _ = tree[number]
        if form == FOLDER:
            head = path if path == "/" else path + "/"
            waiting.extend([(head + name, other) for name, other in reversed(body)])
    return rows
