"""What is asked of a whole things tree, when all of its cells were looked at: things is a dict by number."""

from sumstand.contents import least_depth
from sumstand.errors import NotSound
from sumstand.things import FILE, FOLDER


def check_whole_tree(things, wide, pointer, depth):
    """Raise NotSound at the first fault of a whole tree whose topmost cell lies at a pointer."""
    # Numbers begin at 0, so there are one more of them than the greatest one.
    if depth != least_depth(wide, max(things) + 1):
        raise NotSound((pointer, "shape"))
    if 1 not in things:
        raise NotSound((0, "count"))
    counts = counted(things)
    numbers = sorted(things)
    for number in numbers:
        if is_miscounted(things, counts, number):
            raise NotSound((things[number].address, "count"))
    found = led_from_top(things)
    for number in numbers:
        due = 0 if number == 1 else 1
        if things[number].form == FOLDER and (counts.get(number, 0) != due or number not in found):
            raise NotSound((things[number].address, "ring"))
    for number in numbers:
        if is_over_limit(things, number):
            raise NotSound((things[number].address, "limit"))


def counted(things):
    """Return a dict that tells how many entries lead to each number to which some do."""
    counts = {}
    for thing in things.values():
        for number in thing.leads_to:
            counts[number] = counts.get(number, 0) + 1
    return counts


def is_miscounted(things, counts, number):
    """Return whether a thing leads to none, or is the topmost one and no folder, or has another count of names."""
    thing = things[number]
    if any(other not in things for other in thing.leads_to):
        return True
    if number == 1:
        return thing.form != FOLDER or thing.named != 1
    return thing.named == 0 or thing.named != counts.get(number, 0)


def led_from_top(things):
    """Return a dict of the numbers to which entries lead from thing 1, step by step, and thing 1."""
    found = {1: True}
    waiting = [1]
    while waiting:
        for number in things[waiting.pop()].leads_to:
            if number not in found:
                found[number] = True
                waiting.append(number)
    return found


def is_over_limit(things, number):
    """Return whether a folder's files have more words than its limit, each file once."""
    if things[number].limit_word == 0:
        return False
    found = {number: True}
    waiting = [number]
    used = 0
    while waiting:
        thing = things[waiting.pop()]
        if thing.form == FILE:
            used += thing.length
        for other in thing.leads_to:
            if other not in found:
                found[other] = True
                waiting.append(other)
    return used > things[number].limit_word - 1
