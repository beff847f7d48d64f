"""Which addresses a sound store reaches, and which ones are free."""

from sumstand.contents import INNER, THING
from sumstand.loading import snapshots_at


def reached(look, wide):
    """Return the addresses to which the TOP leads, that of the TOP among them, rising."""
    top = look(0)
    found = {0: True}
    waiting = [top[1], top[3]] + [pointer for _, pointer, _ in snapshots_at(look, wide)]
    while waiting:
        address = waiting.pop()
        # 0 is found from the start: it is no pointer.
        if address not in found:
            found[address] = True
            waiting.extend(pointers_in(look(address)))
    return tuple(sorted(found))


def free_addresses(look, wide, many):
    """Return the addresses that are not reached, rising, of so many."""
    found = {address: True for address in reached(look, wide)}
    return [address for address in range(many) if address not in found]


def pointers_in(words):
    """Return the pointers that a cell of a content or a things tree has, noughts among them."""
    if words[0] == INNER:
        return words[1:]
    if words[0] == THING:
        return words[4:5]
    return ()
