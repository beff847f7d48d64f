"""Deeds on entries: linking and moving, from a plain tree to the tree behind the deed."""

from sumstand.errors import NotFile, TooMany, Top, Within
from sumstand.paths import check_path, last_entry, place_for, resolve
from sumstand.things import FILE, FOLDER
from sumstand.treedeeds import with_name_more
from sumstand.trees import beneath, entry_counts, without_entry


def linked(tree, prime, path, new):
    """Return the tree in which the file at a path has a further name."""
    check_path(path)
    check_path(new)
    number = resolve(tree, path, False)
    folder, name = place_for(tree, new)
    if tree[number][0] != FILE:
        raise NotFile(path)
    if entry_counts(tree)[number] >= prime - 1:
        raise TooMany(prime)
    return with_name_more(tree, prime, folder, name, number)


def moved(tree, prime, path, new):
    """Return the tree in which the entry at a path is at a new one."""
    check_path(path)
    check_path(new)
    number = resolve(tree, path, False)
    folder, name = place_for(tree, new)
    if path == "/":
        raise Top(path)
    if tree[number][0] == FOLDER and (folder == number or folder in beneath(tree, number)):
        raise Within(path)
    old_folder, old_name = last_entry(tree, path)
    return with_name_more(without_entry(tree, old_folder, old_name), prime, folder, name, number)
