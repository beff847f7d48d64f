"""Rows of a store: deeds and questions as texts, and their answers."""

from sumstand.batches import do
from sumstand.errors import BadRow, Refused
from sumstand.figures import number_in

MOST_FIGURES = 9


def answer(store, text):
    """Do or answer a row of text; return the answer, or how it was refused."""
    words = text.split(" ") if isinstance(text, str) else []
    try:
        return answered(store, words)
    except Refused as refused:
        return f"refused: {refused.word} {refused.what}"


def answered(store, words):
    """Do or answer the words of a row; raise BadRow if they are none."""
    deed = None if "" in words else deed_in(words)
    if deed is not None:
        do(store.array, store.code(deed))
        return "ok"
    worth = None if "" in words else asked(store, words)
    if worth is None:
        raise BadRow(0)
    if isinstance(worth, tuple):
        return " ".join([str(part) for part in worth]) if worth else "-"
    return str(worth)


def deed_in(words):
    """Return the deed that words tell, or None."""
    match words:
        case ["file", path]:
            return "make_file", path
        case ["folder", path]:
            return "make_folder", path
        case ["signpost", text, path]:
            return "signpost", text, path
        case ["write", path, place, *numbers]:
            return writing_in(path, place, numbers)
        case ["drop", path]:
            return "drop", path
        case ["link", path, new]:
            return "link", path, new
        case ["move", path, new]:
            return "move", path, new
        case ["limit", path, "none"]:
            return "limit", path, None
        case ["cut", path, figures]:
            return sized_in("cut", path, figures)
        case ["limit", path, figures]:
            return sized_in("limit", path, figures)
        case ["forget", "all"]:
            return ("forget_all",)
        case ["snap", name]:
            return "snap", name
        case ["forget", name]:
            return "forget", name
        case ["back", name]:
            return "back", name
    return None


def writing_in(path, place, words):
    """Return the deed of writing words at a place with a colon behind it, or None."""
    numbers = [number_in(word, MOST_FIGURES) for word in words]
    at = number_in(place[:-1], MOST_FIGURES)
    if not place.endswith(":") or at is None or None in numbers:
        return None
    return "write", path, at, tuple(numbers)


def sized_in(word, path, figures):
    """Return the deed of a word with a path and a number, or None."""
    number = number_in(figures, MOST_FIGURES)
    return None if number is None else (word, path, number)


def asked(store, words):
    """Return the worth of the question that words tell, or None if they tell none."""
    if len(words) > 3 and words[-2] == "in":
        return asked_of(store, words[:-2], words[-1])
    return store.free() if words == ["free"] else asked_of(store, words, None)


def asked_of(store, words, of):
    """Return the worth of a question for a snapshot, for the live tree without its name."""
    match words:
        case ["kind", path]:
            return store.kind(path, of)
        case ["names", path]:
            return store.names(path, of)
        case ["size", path]:
            return store.size(path, of)
        case ["links", path]:
            return store.links(path, of)
        case ["target", path]:
            return store.target(path, of)
        case ["used", path]:
            return store.used(path, of)
        case ["read", path, place, figures]:
            at, many = number_in(place, MOST_FIGURES), number_in(figures, MOST_FIGURES)
            return None if at is None or many is None else store.read(path, at, many, of)
    return None
