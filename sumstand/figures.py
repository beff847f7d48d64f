"""Numbers in texts: figures, without leading zeros."""


def number_in(word, figures):
    """Return the number that a word tells in at most so many figures, or None."""
    if not word.isascii() or not word.isdigit() or len(word) > figures:
        return None
    if word[0] == "0" and word != "0":
        return None
    return int(word)


def numbers_in(words, figures, most):
    """Return the numbers that words tell, None if one tells no number up to most."""
    numbers = [number_in(word, figures) for word in words]
    if any(number is None or number > most for number in numbers):
        return None
    return tuple(numbers)
