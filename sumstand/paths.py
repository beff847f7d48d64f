"""Paths, and the things of a plain tree to which they lead."""

from sumstand.errors import BadPath, Loop, NoThing, NotFile, NotFolder, There
from sumstand.signs import is_name
from sumstand.things import FILE, FOLDER, SIGNPOST
from sumstand.trees import entry_in

MOST_NAMES = 20
MOST_EXCHANGED = 8
LONGEST_PATH = 260


def is_path(value):
    """Return whether value is a path: "/", or 1 to 20 names, each with "/" ahead of it."""
    if not isinstance(value, str) or len(value) > LONGEST_PATH or not value.startswith("/"):
        return False
    names = names_in(value)
    return len(names) <= MOST_NAMES and all(is_name(name) for name in names)


def check_path(value):
    """Raise BadPath unless value is a path."""
    if not is_path(value):
        raise BadPath(value)


def names_in(path):
    """Return the names of a path, none for "/"."""
    return [] if path == "/" else path[1:].split("/")


def resolve(tree, path, followed):
    """Return the number of the thing to which a path leads; a signpost at its end is exchanged if it is followed."""
    return led_to(tree, path, names_in(path), followed)


def file_at(tree, path):
    """Return the number of the file to which a path leads, followed."""
    number = resolve(tree, path, True)
    if tree[number][0] != FILE:
        raise NotFile(path)
    return number


def folder_at(tree, path):
    """Return the number of the folder to which a path leads, followed."""
    number = resolve(tree, path, True)
    if tree[number][0] != FOLDER:
        raise NotFolder(path)
    return number


def last_entry(tree, path):
    """Return the folder in which a path that is not "/" has its last name, and this name, there or not."""
    names = names_in(path)
    folder = led_to(tree, path, names[:-1], True)
    if tree[folder][0] != FOLDER:
        raise NotFolder(path)
    return folder, names[-1]


def place_for(tree, path):
    """Return the folder and the name of something that is to be made at a path."""
    if path == "/":
        raise There(path)
    folder, name = last_entry(tree, path)
    if entry_in(tree[folder][1], name) is not None:
        raise There(path)
    return folder, name


def led_to(tree, path, names, followed):
    """Return the number of the thing to which names lead that are those of a path, or its first ones."""
    number = 1
    exchanged = 0
    while True:
        form, body, _ = tree[number]
        if form == SIGNPOST and (names or followed):
            if exchanged == MOST_EXCHANGED:
                raise Loop(path)
            exchanged += 1
            number = 1
            names = names_in(body) + names
        elif not names:
            return number
        elif form != FOLDER:
            raise NotFolder(path)
        else:
            number = entry_in(body, names[0])
            names = names[1:]
            if number is None:
                raise NoThing(path)
