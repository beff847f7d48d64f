"""Laying contents and things into cells, where cells that are at the same place already are kept.

Places are told as a dict: a pair of the level, the lowest being 1, and the index in it leads to a pair of the
address of the cell there and the cell.
"""

from sumstand.contents import INNER, LEAF, padded


class Ground:
    """Free addresses, and the new cells that were laid on them."""

    def __init__(self, addresses):
        self.addresses = addresses
        self.laid = []

    def placed(self, old, made):
        """Return the address of a cell that is made: the old one's, a pair, if it is the same, or a new one."""
        if old is not None and old[1] == made:
            return old[0]
        count = len(self.laid)
        # Where no address is left the cells are counted all the same, at addresses that no pointer has.
        address = self.addresses[count] if count < len(self.addresses) else -1 - count
        self.laid.append((address, made))
        return address


def laid_content(ground, wide, words, old):
    """Lay a content; return its pointer and its places. old are the places of the content that is there."""
    places = {}
    pointers = laid_level(ground, LEAF, grouped(words, wide), 1, old, places)
    return laid_above(ground, wide, pointers, 2, old, places), places


def laid_above(ground, wide, pointers, level, old, places):
    """Lay the INNERs above pointers, from a level on; return the pointer to the uppermost cell."""
    while level == 1 or len(pointers) > 1:
        pointers = laid_level(ground, INNER, grouped(pointers, wide), level, old, places)
        level += 1
    return pointers[0] if pointers else 0


def laid_level(ground, kind, rows, level, old, places):
    """Lay the cells of a level, but for those of noughts alone; return the pointers to them."""
    pointers = []
    for index, row in enumerate(rows):
        if any(row):
            made = (kind,) + row
            address = ground.placed(old.get((level, index)), made)
            places[level, index] = (address, made)
            pointers.append(address)
        else:
            pointers.append(0)
    return pointers


def grouped(numbers, wide):
    """Return the rows of numbers that cells have behind their first words, noughts behind the last number."""
    room = wide - 1
    return [padded(tuple(numbers[start:start + room]), room) for start in range(0, len(numbers), room)]
