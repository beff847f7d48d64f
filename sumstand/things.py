"""Things: files, folders and signposts, and the words that their contents have."""

from sumstand.signs import LONGEST_NAME, NAME_SIGNS, numbers_of, text_of

FILE = 1
FOLDER = 2
SIGNPOST = 3


def entry_words(entries):
    """Return the words that tell a folder's entries (name, number)."""
    return named_words(entries)


def entries_in(words):
    """Return the entries that words tell, or None if they tell none."""
    rows = named_rows(dict(enumerate(words)), len(words), 1)
    if rows is None:
        return None
    return tuple((text_of(name), numbers[0]) for name, numbers in rows)


def snapshot_words(snapshots):
    """Return the words that tell snapshots (name, pointer, depth)."""
    return named_words(snapshots)


def snapshots_in(words):
    """Return the snapshots that words tell; they have to be words of some."""
    rows = named_rows(dict(enumerate(words)), len(words), 2)
    return tuple((text_of(name), numbers[0], numbers[1]) for name, numbers in rows)


def thing_words(thing):
    """Return the words of a thing's content."""
    form, body, _ = thing
    if form == FOLDER:
        return entry_words(body)
    if form == SIGNPOST:
        return numbers_of(body)
    return body


def body_of(form, words):
    """Return the body of a thing of a form whose content has these words."""
    if form == FOLDER:
        return entries_in(words)
    if form == SIGNPOST:
        return text_of(words)
    return words


def named_words(rows):
    """Return the words that tell rows, each a name with numbers behind it."""
    words = []
    for name, *numbers in rows:
        words.append(len(name))
        words.extend(numbers_of(name))
        words.extend(numbers)
    return tuple(words)


def named_rows(words, size, many):
    """Return the rows that words tell, each the numbers of a name and many numbers behind it, or None.

    words is a dict by index, in which words that are 0 need not be; there are size of them.
    """
    rows = []
    last = ()
    at = 0
    while at < size:
        length = words.get(at, 0)
        if not 1 <= length <= LONGEST_NAME or at + length + many >= size:
            return None
        behind = at + 1 + length
        name = tuple(words.get(index, 0) for index in range(at + 1, behind))
        # A name that ascends is not the one ahead.
        if name <= last or not all(0 <= number < NAME_SIGNS for number in name):
            return None
        rows.append((name, tuple(words.get(index, 0) for index in range(behind, behind + many))))
        last = name
        at = behind + many
    return tuple(rows)
