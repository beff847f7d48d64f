"""The looker: the first fault of cells that are to hold a sound store."""

from sumstand.contents import TOP, least_depth
from sumstand.errors import NotSound
from sumstand.things import named_rows
from sumstand.walking import is_too_deep, walk_content, walk_things
from sumstand.wholetrees import check_whole_tree


def first_fault(look, many):
    """Return the address and the word of the first fault, or None if the cells hold a sound store."""
    try:
        walk_store(remembered(look), many)
    except NotSound as fault:
        return fault.what
    return None


def remembered(look):
    """Return a function that looks as look does, but at each cell just once."""
    cells = {}

    def look_once(address):
        if address not in cells:
            cells[address] = look(address)
        return cells[address]

    return look_once


def walk_store(look, many):
    """Walk all that the TOP leads to; raise NotSound at the first fault."""
    wide = len(look(0))
    check_top(look(0), wide, many)
    roots = [look(0)[1:3]] + walk_snapshots(look, wide, many)
    # Of two trees with the same topmost cell and depth there is nothing more to be seen in the second one.
    seen = {}
    for pointer, depth in roots:
        if (pointer, depth) not in seen:
            seen[pointer, depth] = True
            check_whole_tree(walk_things(look, wide, many, pointer, depth), wide, pointer, depth)


def check_top(top, wide, many):
    """Raise NotSound if the words of the TOP are wrong."""
    kind, things, depth, pointer, snaps_depth, size = top[:6]
    wrong = kind != TOP or any(top[6:])
    wrong = wrong or snaps_depth != least_depth(wide, size) or (size == 0 and pointer != 0)
    if wrong or not 1 <= things < many or is_too_deep(wide, depth, many):
        raise NotSound((0, "top"))


def walk_snapshots(look, wide, many):
    """Walk the content of the snapshots; return the pointer and the depth of each one's things tree."""
    _, _, _, pointer, depth, size = look(0)[:6]
    words = walk_content(look, wide, many, {}, 0, pointer, depth, size)
    rows = named_rows(words, size, 2)
    if rows is None:
        raise NotSound((0, "entries"))
    roots = [root for _, root in rows]
    for root, root_depth in roots:
        if not 1 <= root < many or is_too_deep(wide, root_depth, many):
            raise NotSound((0, "entries"))
    return roots
