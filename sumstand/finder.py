"""Tables that look as if by chance, and the first of them that stands."""

from sumstand.errors import BadNumber, BadShape
from sumstand.fields import is_prime
from sumstand.forms import is_from
from sumstand.judge import stands
from sumstand.shapes import GREATEST_DATA, GREATEST_LOST, GREATEST_SUMS

GREATEST_NUMBER = 1000000000
GREATEST_MANY = 1000


def table_at(p, n, c, number):
    """Return the table of c rows of n numbers that has a number."""
    check_sizes(p, n, c)
    if not is_from(number, 0, GREATEST_NUMBER):
        raise BadNumber(number)
    return numbered_table(p, n, c, number)


def finder(p, n, c, e, first, many):
    """Return the number and the table of the first of many tables that stands, or None."""
    check_sizes(p, n, c)
    if not is_from(e, 0, GREATEST_LOST):
        raise BadShape(4)
    if not is_from(first, 0, GREATEST_NUMBER):
        raise BadNumber(first)
    if not is_from(many, 0, GREATEST_MANY):
        raise BadNumber(many)
    for number in range(first, first + many):
        table = numbered_table(p, n, c, number)
        if stands((p, 1, n, table, e)):
            return number, table
    return None


def check_sizes(p, n, c):
    """Raise BadShape unless there are shapes with this prime and so many data and sums."""
    if not is_prime(p):
        raise BadShape(0)
    if not is_from(n, 1, GREATEST_DATA):
        raise BadShape(2)
    if not is_from(c, 0, GREATEST_SUMS):
        raise BadShape(3)


def numbered_table(p, n, c, number):
    """Return the table that has a number, without asking for its form."""
    x = (number + 1) * 7919 % 2147483647
    rows = []
    for _ in range(c):
        row = []
        for _ in range(n):
            x = x * 48271 % 2147483647
            row.append(x % (p - 1) + 1)
        rows.append(tuple(row))
    return tuple(rows)
