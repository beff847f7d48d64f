"""Trees as texts, and back as deeds."""

from sumstand.errors import BadRow
from sumstand.figures import numbers_in
from sumstand.paths import is_path, names_in
from sumstand.signs import numbers_of
from sumstand.things import FILE, FOLDER
from sumstand.trees import walked

MOST_FIGURES = 5
GREATEST_TOLD = 65520


def tree_text(store, of=None):
    """Return the rows of text that tell a tree, one for each name."""
    tree = store.tree(of)
    rows = []
    # The paths of the files that were told, by their numbers.
    first = {}
    for path, number in walked(tree):
        form, body, limit = tree[number]
        if form == FOLDER:
            if path != "/" or limit is not None:
                rows.append(folder_text(path, limit))
        elif form != FILE:
            rows.append(f"{path} signpost {body}")
        elif number in first:
            rows.append(f"{path} same {first[number]}")
        else:
            first[number] = path
            rows.append(" ".join([f"{path} file {len(body)}:"] + [str(word) for word in body]))
    return tuple(rows)


def folder_text(path, limit):
    """Return the row of a folder."""
    return f"{path} folder" if limit is None else f"{path} folder limit {limit}"


def tree_of(rows):
    """Return the deeds that make the tree that rows tell, in an empty store; raise BadRow where they tell none."""
    if not isinstance(rows, tuple):
        raise BadRow(-1)
    deeds = []
    # The word of each path that was told.
    told = {"/": "folder"}
    last = None
    for index, row in enumerate(rows):
        words = row.split(" ") if isinstance(row, str) else []
        made = deeds_in(words, told)
        if made is None or (last is not None and not is_greater(words[0], last)):
            raise BadRow(index)
        last = words[0]
        told[last] = words[1]
        deeds.extend(made)
    return tuple(deeds)


def deeds_in(words, told):
    """Return the deeds of a row's words, None if they have no form of a row or lack what was to be told before."""
    if len(words) < 2 or not is_path(words[0]):
        return None
    path = words[0]
    if path == "/":
        return limit_deeds(path, words[2:]) if words[1] == "folder" and len(words) > 2 else None
    if told.get(folder_of(path)) != "folder":
        return None
    match words[1:]:
        case ["folder", *rest]:
            limits = limit_deeds(path, rest)
            return None if limits is None else [("make_folder", path)] + limits
        case ["file", figures, *rest]:
            return file_deeds(path, figures, rest)
        case ["same", other]:
            return [("link", other, path)] if told.get(other) == "file" else None
        case ["signpost", text]:
            return [("signpost", text, path)] if is_path(text) else None
    return None


def limit_deeds(path, words):
    """Return the deeds for the words behind folder, or None."""
    if not words:
        return []
    if len(words) != 2 or words[0] != "limit":
        return None
    numbers = numbers_in(words[1:], MOST_FIGURES, GREATEST_TOLD)
    return None if numbers is None else [("limit", path, numbers[0])]


def file_deeds(path, figures, words):
    """Return the deeds for a file with these words, as many as the figures with a colon behind them tell, or None."""
    size = numbers_in([figures[:-1]], MOST_FIGURES, GREATEST_TOLD)
    numbers = numbers_in(words, MOST_FIGURES, GREATEST_TOLD)
    if not figures.endswith(":") or numbers is None or size != (len(numbers),):
        return None
    return [("make_file", path)] + ([("write", path, 0, numbers)] if numbers else [])


def folder_of(path):
    """Return the path of the folder in which a path that is not "/" has its last name."""
    head, _, _ = path.rpartition("/")
    return head if head else "/"


def is_greater(path, other):
    """Return whether a path is greater than another one, by their names, and these by their numbers."""
    return path_order(path) > path_order(other)


def path_order(path):
    """Return the numbers of the names of a path."""
    return tuple(numbers_of(name) for name in names_in(path))
