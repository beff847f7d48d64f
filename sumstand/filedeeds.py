"""Deeds on files: making, writing and cutting, from a plain tree to the tree behind the deed."""

from sumstand.errors import BadRange, BadSize, BadWords
from sumstand.forms import is_from, is_from_nought
from sumstand.paths import check_path, file_at, place_for
from sumstand.things import FILE
from sumstand.trees import check_size, with_thing
from sumstand.treedeeds import with_made


def made_file(tree, prime, path):
    """Return the tree with an empty file at a path."""
    check_path(path)
    folder, name = place_for(tree, path)
    return with_made(tree, prime, folder, name, (FILE, (), None))


def written(tree, prime, path, at, words):
    """Return the tree in which the file at a path has the words from the place at on."""
    check_path(path)
    if not is_from_nought(at):
        raise BadRange(at)
    check_words(prime, words)
    number = file_at(tree, path)
    if not words:
        return tree
    _, body, limit = tree[number]
    check_size(prime, max(len(body), at + len(words)))
    longer = lengthened(body, at)
    return with_thing(tree, number, (FILE, longer[:at] + words + longer[at + len(words):], limit))


def cut_to(tree, prime, path, size):
    """Return the tree in which the file at a path has its first words, as many as size."""
    check_path(path)
    if not is_from_nought(size):
        raise BadSize(size)
    number = file_at(tree, path)
    check_size(prime, size)
    _, body, limit = tree[number]
    return with_thing(tree, number, (FILE, lengthened(body, size)[:size], limit))


def check_words(prime, words):
    """Raise BadWords unless words are a tuple of words."""
    if not isinstance(words, tuple):
        raise BadWords(-1)
    for index, word in enumerate(words):
        if not is_from(word, 0, prime - 1):
            raise BadWords(index)


def lengthened(body, size):
    """Return the words of a file with noughts behind them, if they are fewer than size."""
    return body + (0,) * (size - len(body))
