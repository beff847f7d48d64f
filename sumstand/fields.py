"""Numbers below a prime, and matrices of them."""

from sumstand.forms import is_from

GREATEST_PRIME = 65521


def is_prime(p):
    """Return whether p is a prime from 2 to 65521."""
    if not is_from(p, 2, GREATEST_PRIME):
        return False
    if p % 2 == 0:
        return p == 2
    divisor = 3
    while divisor * divisor <= p:
        if p % divisor == 0:
            return False
        divisor += 2
    return True


def inverse(a, p):
    """Return the number below the prime p whose product with a leaves the remainder 1."""
    # Each rest is its factor times a, up to multiples of p; the last one above 0 is 1.
    rest, next_rest = p, a % p
    factor, next_factor = 0, 1
    while next_rest != 0:
        often = rest // next_rest
        rest, next_rest = next_rest, rest - often * next_rest
        factor, next_factor = next_factor, factor - often * next_factor
    return factor % p


def combined(row, factor, other, p):
    """Return row with factor times other added, place by place."""
    return tuple([(number + factor * added) % p for number, added in zip(row, other)])


def times(matrix, other, many, p):
    """Return the products of the rows of a matrix and another matrix, which has many columns."""
    return tuple(product_of(row, other, many, p) for row in matrix)


def product_of(row, matrix, many, p):
    """Return the sum of the matrix's rows, each times its number of the row."""
    total = [0] * many
    for factor, other in zip(row, matrix):
        # Data are nought so often that asking is worth it.
        if factor != 0 and any(other):
            total = [number + factor * added for number, added in zip(total, other)]
    return tuple([number % p for number in total])


def left_null(matrix, many, p):
    """Return the rows in reduced form that span all rows whose product with the matrix is nought."""
    rows, places = reduced(with_marks(matrix), many, p)
    # Where nothing is left of the matrix, the marks tell a product that is nought.
    marks = [row[many:] for row in rows[len(places):]]
    spanning, _ = reduced(marks, len(matrix), p)
    return tuple(spanning)


def left_inverse(matrix, many, p):
    """Return the matrix over the first free rows whose product with the matrix is one, or None."""
    taken = first_free(matrix, many, p)
    if len(taken) < many:
        return None
    square = [matrix[place] for place in taken]
    rows, _ = reduced(with_marks(square), many, p)
    return tuple(spread(row[many:], taken, len(matrix)) for row in rows)


def solved(matrix, many, right, p):
    """Return the only numbers whose products with the rows are those of right, or None."""
    joined = [row + (number,) for row, number in zip(matrix, right)]
    rows, places = reduced(joined, many, p)
    if len(places) < many:
        return None
    if any(row[many] != 0 for row in rows[many:]):
        return None
    return tuple(row[many] for row in rows[:many])


def with_marks(matrix):
    """Return the rows of the matrix, each with the row that has 1 at its own place behind it."""
    size = len(matrix)
    return [row + unit(place, size) for place, row in enumerate(matrix)]


def unit(place, size):
    """Return the row of this size that has 1 at the place, 0 elsewhere."""
    return tuple(1 if at == place else 0 for at in range(size))


def first_free(matrix, many, p):
    """Return the places of the rows that are free together with those taken before."""
    # With rows and columns exchanged, a place leads just if none ahead of it make it up.
    turned = [tuple(row[at] for row in matrix) for at in range(many)]
    _, places = reduced(turned, len(matrix), p)
    return places


def spread(numbers, places, size):
    """Return the row of this size that has the numbers at the places, 0 elsewhere."""
    found = dict(zip(places, numbers))
    return tuple(found.get(at, 0) for at in range(size))


def reduced(rows, many, p):
    """Return the rows reduced over their first many places, and the places of the leading ones."""
    found = [tuple(number % p for number in row) for row in rows]
    places = []
    for place in range(many):
        top = len(places)
        at = first_filled(found, top, place)
        if at is not None:
            found[top], found[at] = found[at], found[top]
            found = cleared(found, top, place, p)
            places.append(place)
    return found, places


def first_filled(rows, start, place):
    """Return the index of the first row from start on without 0 at the place, or None."""
    for index in range(start, len(rows)):
        if rows[index][place] != 0:
            return index
    return None


def cleared(rows, top, place, p):
    """Return the rows with 1 at the place in the row at top, and 0 there in all others."""
    factor = inverse(rows[top][place], p)
    lead = tuple(factor * number % p for number in rows[top])
    return [
        lead if index == top else combined(row, -row[place], lead, p)
        for index, row in enumerate(rows)
    ]
