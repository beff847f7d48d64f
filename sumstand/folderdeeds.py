"""Deeds on folders and signposts: making, dropping and limits, from a plain tree to the tree behind the deed."""

from sumstand.errors import BadLimit, NoThing, NotEmpty, OverLimit, Top
from sumstand.forms import is_from
from sumstand.paths import check_path, folder_at, last_entry, place_for
from sumstand.things import FOLDER, SIGNPOST
from sumstand.treedeeds import with_made, with_name_less
from sumstand.trees import entry_in, used_in, with_thing


def made_folder(tree, prime, path):
    """Return the tree with an empty folder at a path."""
    check_path(path)
    folder, name = place_for(tree, path)
    return with_made(tree, prime, folder, name, (FOLDER, (), None))


def made_signpost(tree, prime, text, path):
    """Return the tree with a signpost with a text at a path."""
    check_path(text)
    check_path(path)
    folder, name = place_for(tree, path)
    return with_made(tree, prime, folder, name, (SIGNPOST, text, None))


def dropped(tree, path):
    """Return the tree without the entry of the last name of a path."""
    check_path(path)
    if path == "/":
        raise Top(path)
    folder, name = last_entry(tree, path)
    number = entry_in(tree[folder][1], name)
    if number is None:
        raise NoThing(path)
    form, body, _ = tree[number]
    if form == FOLDER and body:
        raise NotEmpty(path)
    return with_name_less(tree, folder, name, number)


def limited(tree, prime, path, words):
    """Return the tree in which the folder at a path has a limit, or none for None."""
    check_path(path)
    if words is not None and not is_from(words, 0, prime - 2):
        raise BadLimit(words)
    number = folder_at(tree, path)
    form, body, _ = tree[number]
    if words is not None and used_in(tree, number) > words:
        raise OverLimit(path)
    return with_thing(tree, number, (form, body, words))
