"""Reading cells of the file store: contents, things trees and snapshots, all of a sound store.

look is a function that returns the cell at an address; places are told as in sumstand/laying.py.
"""

from sumstand.errors import BadName, NoSnapshot
from sumstand.signs import is_name
from sumstand.things import body_of, snapshots_in


def places_at(look, wide, pointer, depth):
    """Return the places of the cells of a content, or of the INNERs of a things tree, that lie at a pointer."""
    places = {}
    waiting = [(pointer, depth, 0)]
    while waiting:
        address, level, index = waiting.pop()
        if address == 0:
            continue
        inner = look(address)
        places[level, index] = (address, inner)
        if level > 1:
            first = index * (wide - 1)
            waiting.extend([(below, level - 1, first + at) for at, below in enumerate(inner[1:])])
    return places


def words_in(places, wide, size):
    """Return the words of a content of a size with these places."""
    words = []
    for level, index in sorted(places):
        if level == 1:
            _, leaf = places[level, index]
            words.extend([0] * (index * (wide - 1) - len(words)))
            words.extend(leaf[1:])
    words.extend([0] * (size - len(words)))
    return tuple(words[:size])


def words_at(look, wide, pointer, depth, size):
    """Return the words of the content that lies at a pointer."""
    return words_in(places_at(look, wide, pointer, depth), wide, size)


def things_in(look, wide, inners):
    """Return a dict of the address and the cell of each THING by number, where these are the INNERs' places."""
    things = {}
    for level, index in sorted(inners):
        if level == 1:
            _, inner = inners[level, index]
            for at, address in enumerate(inner[1:]):
                if address != 0:
                    things[index * (wide - 1) + at] = (address, look(address))
    return things


def plain_thing(look, wide, thing):
    """Return what the cell of a THING tells: its form, body and limit."""
    _, form, _, size, pointer, depth, limit = thing[:7]
    words = words_at(look, wide, pointer, depth, size)
    return form, body_of(form, words), None if limit == 0 else limit - 1


def plain_tree(look, wide, things):
    """Return the plain tree of these THINGs."""
    tree = [None] * (max(things) + 1)
    for number, (_, thing) in things.items():
        tree[number] = plain_thing(look, wide, thing)
    return tuple(tree)


def tree_at(look, wide, pointer, depth):
    """Return the plain tree of the things tree that lies at a pointer."""
    return plain_tree(look, wide, things_in(look, wide, places_at(look, wide, pointer, depth)))


def snapshots_at(look, wide):
    """Return the snapshots (name, pointer, depth), rising."""
    _, _, _, pointer, depth, size = look(0)[:6]
    return snapshots_in(words_at(look, wide, pointer, depth, size))


def root_of(look, wide, of):
    """Return the pointer and the depth of the things tree of a snapshot, of the live one for None."""
    if of is not None:
        check_name(of)
        return snapshot_of(snapshots_at(look, wide), of)[1:]
    _, pointer, depth = look(0)[:3]
    return pointer, depth


def check_name(name):
    """Raise BadName unless name is a name."""
    if not is_name(name):
        raise BadName(name)


def snapshot_of(snapshots, name):
    """Return the snapshot of a name; raise NoSnapshot if there is none."""
    for snapshot in snapshots:
        if snapshot[0] == name:
            return snapshot
    raise NoSnapshot(name)
