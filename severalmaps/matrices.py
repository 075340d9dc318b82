"""Matrices modulo a prime p, and linear equations modulo p.

While a row is worked on, it stands in one integer: its numbers are digits of
BITS bits each, the first number lowest. So a multiple of a whole row is added
to another one by one product and one sum, and large modules take no long time.

A digit has to stay below LIMIT until it is brought back below p. A multiple of
a row adds at most 12 * 12 to it: 7000 multiples may be added, and no equation
here comes near to so many terms.
"""

BITS = 44
MASK = (1 << 44) - 1
LIMIT = 1 << 20
# A number below LIMIT, times FACTOR // p + 1 and divided by FACTOR, is its
# quotient by p exactly, as LIMIT * p is below FACTOR; and the product is below
# LIMIT * FACTOR, so that it has room in a digit.
FACTOR_BITS = 24
FACTOR = 1 << 24


def is_row(thing, columns, p):
    """Tells whether a thing is a tuple of this many numbers modulo p."""
    if type(thing) != tuple or len(thing) != columns:
        return False
    if [number for number in thing if type(number) != int]:
        return False
    return columns == 0 or (min(thing) >= 0 and max(thing) < p)


def is_matrix(thing, rows, columns, p):
    """Tells whether a thing is a matrix with these numbers of rows and columns."""
    if type(thing) != tuple or len(thing) != rows:
        return False
    return all([is_row(row, columns, p) for row in thing])


def unit_matrix(many):
    """The identity matrix."""
    return tuple([(0,) * at + (1,) + (0,) * (many - at - 1) for at in range(many)])


def transposed(matrix, columns):
    """The transposed matrix; without rows a matrix does not tell its columns."""
    return tuple([tuple([row[at] for row in matrix]) for at in range(columns)])


def chosen_columns(matrix, places):
    """The matrix of the columns at these places, in their order."""
    return tuple([tuple([row[at] for at in places]) for row in matrix])


def packed(row):
    """The integer that has the numbers of a row as its digits."""
    total = 0
    for number in reversed(row):
        total = (total << BITS) | number
    return total


def digits(total, places, p):
    """The digits at these places, modulo p, as a tuple."""
    return tuple([((total >> (BITS * at)) & MASK) % p for at in places])


def times(first, second, columns, p):
    """The product of two matrices; columns is the number of the second one's columns."""
    rows = [packed(row) for row in second]
    places = list(range(columns))
    return tuple([digits(mixed(numbers, rows), places, p) for numbers in first])


def mixed(numbers, rows):
    """The sum of the multiples of packed rows by the numbers."""
    return sum([number * row for number, row in zip(numbers, rows) if number])


def settled(total, p, mask):
    """The packed row with each digit below LIMIT brought below p.

    The mask has LIMIT - 1 as each digit. It keeps the quotients of the digits
    by p, and takes away what the shift brought over from their neighbours.
    """
    quotients = ((total * (FACTOR // p + 1)) >> FACTOR_BITS) & mask
    return total - p * quotients


def reciprocal(number, p):
    """The number that, times this one, is 1 modulo p."""
    return [other for other in range(1, p) if other * number % p == 1][0]


def solutions(equations, many, p):
    """The solutions of equations with many unknowns, numbered from 0.

    An equation is a list of pairs of an unknown and its number; their sum is 0.
    Returns (free, rows): the unknowns that can be chosen freely, ascending, and
    for each unknown the numbers whose products with the free ones add up to it.
    An unknown is only expressed by those ahead of it, so these rather stay free.
    """
    worths = expressed(equations, many, p)
    free = [at for at in range(many) if worths[at] == 1 << (BITS * at)]
    return free, tuple([digits(worth, free, p) for worth in worths])


def expressed(equations, many, p):
    """For each unknown, the packed row of the numbers by which the free ones add up to it."""
    mask = sum([(LIMIT - 1) << (BITS * at) for at in range(many)])
    worths = [1 << (BITS * at) for at in range(many)]
    for equation in equations:
        total = settled(sum([number * worths[at] for at, number in equation]), p, mask)
        if total:
            worths = without_last(worths, total, p, mask)
    return worths


def without_last(worths, total, p, mask):
    """The worths of the unknowns, without the last unknown of a total that is 0."""
    # The last one stands highest: without it the integers become shorter.
    shift = (total.bit_length() - 1) // BITS * BITS
    number = total >> shift
    others = total - (number << shift)
    change = settled(others * (p - reciprocal(number, p)), p, mask) - (1 << shift)
    return [replaced(worth, shift, change, p, mask) for worth in worths]


def replaced(worth, shift, change, p, mask):
    """The worth, with the change added as often as its digit at the shift tells."""
    number = (worth >> shift) & MASK
    if number == 0:
        return worth
    return settled(worth + number * change, p, mask)


def terms(row):
    """The equation that a row of a matrix stands for."""
    return [(at, number) for at, number in enumerate(row) if number]


def combination(vectors, target, p):
    """Numbers whose products with the vectors add up to the target, or None."""
    # The target's negative stands first: so its unknown stays free, and can be 1
    # while the other free ones are 0, exactly if there are such numbers.
    equations = [
        terms([(p - goal) % p] + [vector[at] for vector in vectors])
        for at, goal in enumerate(target)
    ]
    worths = expressed(equations, len(vectors) + 1, p)
    if worths[0] != 1:
        return None
    return tuple([digits(worth, [0], p)[0] for worth in worths[1:]])


def null_space(matrix, columns, p):
    """What the matrix leads to 0, as (free, into).

    The columns of into are a basis of it; the rows of into that are numbered in
    the list free are those of the identity matrix.
    """
    return solutions([terms(row) for row in matrix], columns, p)


def factored(matrix, columns, p):
    """The matrix as a product, as (pivots, onto, into).

    The matrix is into times onto. The columns of into are those of the matrix
    that are numbered in the list pivots, a basis of what its columns span; the
    columns of onto that are numbered so are those of the identity matrix.
    """
    free, worths = null_space(matrix, columns, p)
    pivots = [at for at in range(columns) if at not in free]
    onto = [pivot_row(at, free, worths[at], columns, p) for at in pivots]
    return pivots, tuple(onto), chosen_columns(matrix, pivots)


def pivot_row(pivot, free, worth, columns, p):
    """The row with 1 at the pivot and the negative of its worth at the free places."""
    row = [0] * columns
    row[pivot] = 1
    for at, number in zip(free, worth):
        row[at] = (p - number) % p
    return tuple(row)


def inverted(matrix, p):
    """The inverse of a matrix with as many rows as columns, or None."""
    many = len(matrix)
    # The matrix times the last unknowns is to be the first ones: if these are
    # just the free ones, then the last ones are the inverse times them.
    zeros = (0,) * many
    equations = [[(at, p - 1)] + terms(zeros + row) for at, row in enumerate(matrix)]
    free, rows = solutions(equations, 2 * many, p)
    if free != list(range(many)):
        return None
    return rows[many:]
