"""Planning: which cells a deed writes, and where."""

from sumstand.cellstore import glance
from sumstand.contents import THING, TOP, least_depth, padded
from sumstand.errors import HasSnapshot, NoRoom, OverLimit
from sumstand.filedeeds import cut_to, made_file, written
from sumstand.folderdeeds import dropped, limited, made_folder, made_signpost
from sumstand.laying import Ground, laid_above, laid_content
from sumstand.linkdeeds import linked, moved
from sumstand.loading import check_name, places_at, plain_tree, snapshot_of, snapshots_at, things_in, tree_at
from sumstand.reaching import free_addresses
from sumstand.signs import numbers_of
from sumstand.things import FOLDER, snapshot_words, thing_words
from sumstand.trees import check_size, entry_counts, used_in, walked


def planned(store, deed):
    """Return the writes of a deed on a store, pairs of an address and a cell, that of the TOP last."""
    look = glance(store.cells)
    ground = Ground(free_addresses(look, store.wide, store.many()))
    if deed[0] in ("snap", "forget", "forget_all"):
        top = top_with_snapshots(store, look, ground, deed)
    elif deed[0] == "back":
        top = top_behind_back(store, look, deed[1])
    else:
        top = top_with_tree(store, look, ground, deed)
    if len(ground.laid) > len(ground.addresses):
        raise NoRoom(len(ground.laid))
    return () if top == look(0) else tuple(ground.laid) + ((0, top),)


def top_with_snapshots(store, look, ground, deed):
    """Lay the content of the snapshots behind a deed; return the TOP with it."""
    wide = store.wide
    top = look(0)
    words = snapshot_words(snapshots_behind(snapshots_at(look, wide), top, deed))
    check_size(store.prime, len(words))
    pointer, _ = laid_content(ground, wide, words, places_at(look, wide, top[3], top[4]))
    return padded(top[:3] + (pointer, least_depth(wide, len(words)), len(words)), wide)


def snapshots_behind(snapshots, top, deed):
    """Return the snapshots behind a deed that makes one or takes some away."""
    if deed[0] == "forget_all":
        return ()
    name = deed[1]
    check_name(name)
    if deed[0] == "forget":
        gone = snapshot_of(snapshots, name)
        return tuple(snapshot for snapshot in snapshots if snapshot != gone)
    if any(snapshot[0] == name for snapshot in snapshots):
        raise HasSnapshot(name)
    ahead = tuple(snapshot for snapshot in snapshots if numbers_of(snapshot[0]) < numbers_of(name))
    return ahead + ((name, top[1], top[2]),) + snapshots[len(ahead):]


def top_behind_back(store, look, name):
    """Return the TOP that has the things tree of a snapshot, the old one if the tree is the same."""
    check_name(name)
    top = look(0)
    _, pointer, depth = snapshot_of(snapshots_at(look, store.wide), name)
    if tree_at(look, store.wide, pointer, depth) == tree_at(look, store.wide, top[1], top[2]):
        return top
    return (TOP, pointer, depth) + top[3:]


def top_with_tree(store, look, ground, deed):
    """Lay the things tree behind a deed on things; return the TOP with it."""
    wide = store.wide
    top = look(0)
    inners = places_at(look, wide, top[1], top[2])
    things = things_in(look, wide, inners)
    ahead = plain_tree(look, wide, things)
    behind = changed(ahead, store.prime, deed)
    check_limits(behind)
    counts = entry_counts(behind)
    pointers = []
    for number, thing in enumerate(behind):
        if thing is None:
            pointers.append(0)
            continue
        old = things.get(number)
        content = old[1][4] if is_content_kept(ahead, number, thing) else laid_words(ground, look, wide, old, thing)
        names = 1 if number == 1 else counts[number]
        pointers.append(ground.placed(old, thing_cell(wide, thing, names, content)))
    pointer = laid_above(ground, wide, pointers, 1, inners, {})
    return (TOP, pointer, least_depth(wide, len(behind))) + top[3:]


def is_content_kept(ahead, number, thing):
    """Return whether a thing has the same content in the tree ahead, so that nothing of it is laid anew."""
    if number >= len(ahead) or ahead[number] is None:
        return False
    return ahead[number][:2] == thing[:2]


def laid_words(ground, look, wide, old, thing):
    """Lay the content of a thing whose THING was the old one, a pair, or None; return the pointer to it."""
    places = {}
    if old is not None:
        places = places_at(look, wide, old[1][4], old[1][5])
    pointer, _ = laid_content(ground, wide, thing_words(thing), places)
    return pointer


def thing_cell(wide, thing, names, pointer):
    """Return the cell of a THING."""
    form, _, limit = thing
    size = len(thing_words(thing))
    limit_word = 0 if limit is None else limit + 1
    return padded((THING, form, names, size, pointer, least_depth(wide, size), limit_word), wide)


def changed(tree, prime, deed):
    """Return the tree behind a deed on things."""
    match deed:
        case ("make_file", path):
            return made_file(tree, prime, path)
        case ("make_folder", path):
            return made_folder(tree, prime, path)
        case ("signpost", text, path):
            return made_signpost(tree, prime, text, path)
        case ("write", path, at, words):
            return written(tree, prime, path, at, words)
        case ("cut", path, size):
            return cut_to(tree, prime, path, size)
        case ("drop", path):
            return dropped(tree, path)
        case ("link", path, new):
            return linked(tree, prime, path, new)
        case ("move", path, new):
            return moved(tree, prime, path, new)
        case ("limit", path, words):
            return limited(tree, prime, path, words)


def check_limits(tree):
    """Raise OverLimit of the first folder that has used more words than its limit."""
    for path, number in walked(tree):
        form, _, limit = tree[number]
        if form == FOLDER and limit is not None and used_in(tree, number) > limit:
            raise OverLimit(path)
