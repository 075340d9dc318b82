"""What the tests share: modules to test with, and plain checks by the definitions."""

from functools import lru_cache
from itertools import product
from random import Random

from severalmaps.passages import passages

PRIMES = (2, 3, 5, 7, 11, 13)

# Arrows and dims: one to four spaces, none to five arrows, arrows from a space
# to itself, the same arrow several times, the dimension 0.
SHAPES = (
    ((), (3,)),
    ((), (2, 0, 1, 2)),
    (((0, 0),), (4,)),
    (((0, 0), (0, 0)), (3,)),
    (((0, 1),), (2, 3)),
    (((0, 1), (0, 1)), (2, 2)),
    (((0, 1), (1, 0)), (2, 3)),
    (((0, 1), (1, 1), (1, 0), (0, 1)), (3, 2)),
    (((1, 0), (2, 0), (3, 0)), (2, 1, 1, 1)),
    (((0, 1), (1, 2), (2, 3), (3, 0), (2, 2)), (1, 2, 1, 1)),
    (((0, 1), (1, 2)), (2, 0, 2)),
    (((0, 1), (0, 1), (0, 1), (0, 1), (0, 1)), (1, 3)),
    (((0, 0), (0, 1)), (0, 0)),
    (((0, 0),), (0,)),
    (((0, 0), (1, 0), (0, 1)), (0, 4)),
)

# Things of other kinds than a module, a passage or a tuple of any of these.
THINGS = (
    None, "", "text", b"bytes", 0, 1, -1, 10 ** 50, True, False, 1.0, [], [()], {}, {0: ()},
    set(), (), ((),), (((),),), (((1,),),), (None,), (None,) * 4, ("p", "a", "d", "m"), (2, (), (1,)),
    [2, (), (1,), ()], (2, (), (1,), (), ()), object(), int, len, range(4),
)

# The words of all papers, and others.
WORDS = ("alike", "apart", "part", "not", "made", "covered", "seen", "", "yes", "Alike", "unlike", "parts")


def source(seed):
    """A source of numbers that are the same in each run."""
    return Random(seed)


def random_matrix(rng, p, rows, columns):
    return tuple(tuple(rng.randrange(p) for _ in range(columns)) for _ in range(rows))


def random_module(rng, p, arrows, dims):
    maps = tuple(random_matrix(rng, p, dims[t], dims[s]) for s, t in arrows)
    return (p, arrows, dims, maps)


def zero_module(p, arrows, dims):
    return (p, arrows, dims, tuple(((0,) * dims[s],) * dims[t] for s, t in arrows))


def modules(seed, primes=PRIMES, shapes=SHAPES):
    """A module for each prime and each shape."""
    rng = source(seed)
    return [random_module(rng, p, arrows, dims) for p in primes for arrows, dims in shapes]


def close_pairs(seed, primes=PRIMES, shapes=SHAPES):
    """Pairs of small modules of one kind, many with passages that are neither 0 nor invertible."""
    rng = source(seed)
    told = []
    for p in primes:
        for arrows, dims in shapes:
            module = random_module(rng, p, arrows, dims)
            told.append((module, module))
            told.append((module, shuffled(rng, module)))
            smaller = tuple(max(0, dim - 1) for dim in dims)
            told.append((module, zero_module(p, arrows, smaller)))
            told.append((random_module(rng, p, arrows, smaller), module))
            told.append((zero_module(p, arrows, dims), module))
    return told


def shuffled(rng, module):
    """The module with the basis vectors of each space in another order."""
    p, arrows, dims, maps = module
    orders = [rng.sample(range(dim), dim) for dim in dims]
    moved = tuple(
        tuple(tuple(matrix[i][j] for j in orders[s]) for i in orders[t])
        for matrix, (s, t) in zip(maps, arrows)
    )
    return (p, arrows, dims, moved)


def random_change(rng, p, dim):
    """An invertible matrix: a lower times an upper triangular one, in a mixed order of rows."""
    lower = [[rng.randrange(p) if j < i else int(i == j) for j in range(dim)] for i in range(dim)]
    upper = [
        [rng.randrange(p) if j > i else rng.randrange(1, p) if i == j else 0 for j in range(dim)]
        for i in range(dim)
    ]
    rows = list(times(lower, upper, dim, p))
    rng.shuffle(rows)
    return tuple(rows)


def random_changes(rng, module):
    return tuple(random_change(rng, module[0], dim) for dim in module[2])


def times(first, second, columns, p):
    """The product, by its definition."""
    return tuple(
        tuple(sum(row[k] * second[k][j] for k in range(len(second))) % p for j in range(columns))
        for row in first
    )


def one_after_other(module, first, second):
    """First and then second, where first leads from module."""
    p, _, dims, _ = module
    return tuple(times(g, f, dim, p) for g, f, dim in zip(second, first, dims))


def ones(dims):
    """The identity matrices."""
    return tuple(tuple(tuple(int(i == j) for j in range(n)) for i in range(n)) for n in dims)


def zeros(module, other):
    """The passage that is 0 everywhere."""
    return tuple(((0,) * columns,) * rows for columns, rows in zip(module[2], other[2]))


def flat(passage):
    """All numbers of a passage in one list."""
    return [number for matrix in passage for row in matrix for number in row]


def echelon(rows, p):
    """Rows that span the same and are no sums of multiples of one another."""
    rows = [list(row) for row in rows]
    found = 0
    for column in range(len(rows[0]) if rows else 0):
        chosen = [row for row in rows[found:] if row[column] % p]
        if chosen:
            pivot = chosen[0]
            rows.remove(pivot)
            rows.insert(found, pivot)
            inverse = next(k for k in range(p) if k * pivot[column] % p == 1)
            for row in rows[found + 1:]:
                many = row[column] * inverse
                for at, number in enumerate(pivot):
                    row[at] = (row[at] - many * number) % p
            found += 1
    return rows[:found]


def rank(rows, p):
    """The number of rows of a matrix that are not sums of multiples of others."""
    return len(echelon(rows, p))


def ranks(passage, p):
    return tuple(rank(matrix, p) for matrix in passage)


def has_shape(module, other, passage):
    """Whether the matrices have the right form, and plain numbers of the right size."""
    if type(passage) is not tuple or len(passage) != len(module[2]):
        return False
    for matrix, columns, rows in zip(passage, module[2], other[2]):
        if type(matrix) is not tuple or len(matrix) != rows:
            return False
        for row in matrix:
            if type(row) is not tuple or len(row) != columns:
                return False
            if any(type(number) is not int or not 0 <= number < module[0] for number in row):
                return False
    return True


def defects(module, other, passage):
    """For all arrows, what the passage's two ways around it differ by, in one list."""
    p, arrows, dims, maps = module
    told = []
    for (s, t), first, second in zip(arrows, maps, other[3]):
        one = times(passage[t], first, dims[s], p)
        two = times(second, passage[s], dims[s], p)
        for row, line in zip(one, two):
            told.extend((a - b) % p for a, b in zip(row, line))
    return told


def fits(module, other, passage):
    """Whether this is a passage, by the definition."""
    return has_shape(module, other, passage) and not any(defects(module, other, passage))


def shapes_of_one(module, other):
    """The tuples of matrices with a single 1, that is, a basis of all tuples of matrices."""
    told = []
    blank = zeros(module, other)
    for v, matrix in enumerate(blank):
        for i, row in enumerate(matrix):
            for j in range(len(row)):
                line = row[:j] + (1,) + row[j + 1:]
                told.append(blank[:v] + (matrix[:i] + (line,) + matrix[i + 1:],) + blank[v + 1:])
    return told


def plain_number(module, other):
    """[module, other]: what the conditions leave, by a plain rank."""
    rows = [defects(module, other, shape) for shape in shapes_of_one(module, other)]
    return len(rows) - rank(rows, module[0])


def all_matrices(p, rows, columns):
    lines = list(product(range(p), repeat=columns))
    return list(product(lines, repeat=rows))


def all_modules(p, arrows, dims):
    tables = [all_matrices(p, dims[t], dims[s]) for s, t in arrows]
    return [(p, arrows, dims, maps) for maps in product(*tables)]


@lru_cache(maxsize=None)
def all_squares(p, n):
    """All invertible matrices with n rows, found by their ranks."""
    return [matrix for matrix in all_matrices(p, n, n) if rank(matrix, p) == n]


def all_changes(p, dims):
    """All changes of basis."""
    return list(product(*[all_squares(p, n) for n in dims]))


def all_tuples(module, other):
    """All tuples of matrices with the form of a passage."""
    p = module[0]
    return list(product(*[all_matrices(p, r, c) for c, r in zip(module[2], other[2])]))


def random_passage(rng, module, other):
    """A sum of multiples of passages, added up plainly."""
    p = module[0]
    told = zeros(module, other)
    for passage in passages(module, other):
        many = rng.randrange(p)
        told = tuple(
            tuple(tuple((a + many * b) % p for a, b in zip(row, line)) for row, line in zip(one, two))
            for one, two in zip(told, passage)
        )
    return told


def random_passages(seed):
    """Triples of two small modules of one kind and a passage."""
    rng = source(seed)
    return [(one, two, random_passage(rng, one, two)) for one, two in close_pairs(seed)]


def is_plain(value):
    """Whether a value, also within, is of no class of its own."""
    if type(value) in (list, tuple):
        return all(is_plain(item) for item in value)
    return value is None or type(value) in (int, str, bool)


def spoiled(value, p, numbers_too=True):
    """The value with one thing within it spoiled, in each of many ways.

    A tuple becomes a list, or gets an item too many or too few; a number
    becomes True, False, a text, None, a fraction, or leaves its bounds; a text
    becomes another one, or something else.
    """
    if type(value) is str:
        yield from WORDS
        yield from (value.upper(), value + " ", value[:-1], value.encode(), list(value), (value,), None, True)
        return
    if type(value) is int:
        if numbers_too:
            yield from (bool(value), -1, value - p, value + p, p, None, str(value), float(value), (value,))
        return
    yield list(value)
    yield None
    yield {at: item for at, item in enumerate(value)}
    yield value + (value[-1] if value else 0,)
    if value:
        yield value[:-1]
    for at, item in enumerate(value):
        for other in spoiled(item, p, numbers_too):
            yield value[:at] + (other,) + value[at + 1:]


def changed(value, p):
    """The value with one number within it changed to another one, for each number."""
    if type(value) is int:
        yield (value + 1) % p
    elif type(value) is tuple:
        for at, item in enumerate(value):
            for other in changed(item, p):
                yield value[:at] + (other,) + value[at + 1:]


def exchanged(value):
    """The value with two unlike things that stand side by side within it exchanged."""
    if type(value) is not tuple:
        return
    for at, item in enumerate(value):
        if at and item != value[at - 1]:
            yield value[:at - 1] + (item, value[at - 1]) + value[at + 1:]
        for other in exchanged(item):
            yield value[:at] + (other,) + value[at + 1:]
