"""What deeds on plain trees have in common."""

from sumstand.trees import check_long, entry_counts, least_number, with_entry, with_thing, without_entry


def with_made(tree, prime, folder, name, thing):
    """Return the tree with a thing that is made, to which a name in a folder leads."""
    number = least_number(tree)
    made = with_entry(with_thing(tree, number, thing), folder, name, number)
    check_long(made, prime, number)
    check_long(made, prime, folder)
    return made


def with_name_more(tree, prime, folder, name, number):
    """Return the tree in which a name more, in a folder, leads to a thing."""
    named = with_entry(tree, folder, name, number)
    check_long(named, prime, folder)
    return named


def with_name_less(tree, folder, name, number):
    """Return the tree without an entry that leads to a thing, which is gone if no other one does."""
    less = without_entry(tree, folder, name)
    return less if number in entry_counts(less) else with_thing(less, number, None)
