"""Passages from one module to another one."""

from severalmaps.errors import BadArgument, BadPassage, TooLarge
from severalmaps.matrices import chosen_columns, factored, inverted, is_matrix, is_row
from severalmaps.matrices import null_space, solutions, times, transposed, unit_matrix
from severalmaps.modules import check_kind, check_module, check_pair, is_small, turn


def is_passage(module, other, passage):
    """Tells whether this is a passage from module to other."""
    check_pair(module, other)
    return leads(module, other, passage)


def leads(module, other, thing):
    """Tells whether a thing is a passage between what are known to be modules of one kind."""
    p, arrows, dims, maps = module
    others = other[2]
    if type(thing) != tuple or len(thing) != len(dims):
        return False
    if not all([is_matrix(matrix, others[v], dims[v], p) for v, matrix in enumerate(thing)]):
        return False
    return all([
        times(thing[t], first, dims[s], p) == times(second, thing[s], dims[s], p)
        for (s, t), first, second in zip(arrows, maps, other[3])
    ])


def check_passage(module, other, passage):
    """Raises BadPassage if this is no passage from module to other."""
    if not leads(module, other, passage):
        raise BadPassage("this is no passage between the modules")


def identity(module):
    """The identity of a module."""
    check_module(module)
    return tuple([unit_matrix(dim) for dim in module[2]])


def after(module, other, third, first, second):
    """The passage from module to third that is first and then second."""
    check_module(module)
    check_pair(other, third)
    check_kind(module, other)
    check_passage(module, other, first)
    check_passage(other, third, second)
    return composed(module, first, second)


def composed(module, first, second):
    """First and then second, for what are known to be passages; first leads from module."""
    p, _, dims, _ = module
    return tuple([times(g, f, dim, p) for g, f, dim in zip(second, first, dims)])


def mix(module, other, passages, numbers):
    """The sum of the multiples of passages by numbers."""
    check_pair(module, other)
    if type(passages) != tuple:
        raise BadPassage("the passages are not a tuple")
    for passage in passages:
        check_passage(module, other, passage)
    p, _, dims, _ = module
    if not is_row(numbers, len(passages), p):
        raise BadArgument("the numbers are not a tuple of a number for each passage")
    return tuple([
        mixed_matrix([told[v] for told in passages], numbers, rows, dims[v], p)
        for v, rows in enumerate(other[2])
    ])


def mixed_matrix(matrices, numbers, rows, columns, p):
    """The sum of the multiples of matrices by numbers."""
    return tuple([
        tuple([
            sum([scale * matrix[i][j] for matrix, scale in zip(matrices, numbers)]) % p
            for j in range(columns)
        ])
        for i in range(rows)
    ])


def inverse(module, other, passage):
    """The inverse of a passage, or None if it is not invertible."""
    check_pair(module, other)
    check_passage(module, other, passage)
    if module[2] != other[2]:
        return None
    back = [inverted(matrix, module[0]) for matrix in passage]
    if None in back:
        return None
    return tuple(back)


def passages(module, other):
    """A basis of the passages from module to other."""
    free, rows = solved(module, other)
    return [unfolded(module, other, [row[at] for row in rows]) for at in range(len(free))]


def number(module, other):
    """The number of passages in a basis."""
    return len(solved(module, other)[0])


def solved(module, other):
    """The solutions of the conditions of a passage: see severalmaps.matrices.solutions."""
    check_pair(module, other)
    if not is_small(module) and not is_small(other):
        raise TooLarge("neither module is small")
    many = sum([rows * columns for columns, rows in zip(module[2], other[2])])
    return solutions(conditions(module, other), many, module[0])


def starts(module, other):
    """For each space, the unknown that is the first number of its matrix.

    The unknowns are the numbers of a passage, space by space, row by row.
    """
    told = [0]
    for columns, rows in zip(module[2], other[2]):
        told.append(told[-1] + rows * columns)
    return told


def conditions(module, other):
    """The equations that make matrices for the spaces a passage."""
    _, arrows, dims, maps = module
    first_unknowns = starts(module, other)
    told = []
    for at, (s, t) in enumerate(arrows):
        columns = transposed(maps[at], dims[s])
        for i, row in enumerate(other[3][at]):
            start = first_unknowns[t] + i * dims[t]
            ahead = [terms_ahead(start, column) for column in columns]
            behind = [
                terms_behind(first_unknowns[s] + j, row, dims[s], module[0])
                for j in range(dims[s])
            ]
            told.extend([one + two for one, two in zip(ahead, behind)])
    return told


def terms_ahead(start, column):
    """The terms of a row of the passage, from the unknown start on, times a column."""
    return [(start + k, scale) for k, scale in enumerate(column) if scale]


def terms_behind(start, row, step, p):
    """The terms of the negative of a row times a column of the passage."""
    return [(start + k * step, p - scale) for k, scale in enumerate(row) if scale]


def listed(passage):
    """All numbers of a passage, space by space, row by row."""
    return tuple([entry for matrix in passage for row in matrix for entry in row])


def unfolded(module, other, numbers):
    """The matrices that have these numbers, space by space, row by row."""
    first_unknowns = starts(module, other)
    told = []
    for v, (columns, rows) in enumerate(zip(module[2], other[2])):
        places = [first_unknowns[v] + i * columns for i in range(rows)]
        told.append(tuple([tuple(numbers[at:at + columns]) for at in places]))
    return tuple(told)


def image(module, other, passage):
    """The image of a passage, as (image, onto, into)."""
    check_pair(module, other)
    check_passage(module, other, passage)
    p, arrows, dims, maps = module
    factors = [factored(matrix, dim, p) for matrix, dim in zip(passage, dims)]
    pivots = [factor[0] for factor in factors]
    onto = tuple([factor[1] for factor in factors])
    into = tuple([factor[2] for factor in factors])
    # A basis vector of the image comes, by onto, from the pivot's basis vector.
    inner = [
        chosen_columns(times(onto[t], matrix, dims[s], p), pivots[s])
        for matrix, (s, t) in zip(maps, arrows)
    ]
    told = (p, arrows, tuple([len(places) for places in pivots]), tuple(inner))
    return told, onto, into


def kernel(module, other, passage):
    """The kernel of a passage, as (kernel, into)."""
    check_pair(module, other)
    check_passage(module, other, passage)
    return kernel_of(module, passage)


def kernel_of(module, passage):
    """The kernel of what is known to be a passage from module, as (kernel, into)."""
    p, arrows, dims, maps = module
    spaces = [null_space(matrix, dim, p) for matrix, dim in zip(passage, dims)]
    free = [space[0] for space in spaces]
    into = tuple([space[1] for space in spaces])
    inner = []
    for matrix, (s, t) in zip(maps, arrows):
        # Into tells a vector of the kernel by its numbers at the free places.
        rows = tuple([matrix[at] for at in free[t]])
        inner.append(times(rows, into[s], len(free[s]), p))
    return (p, arrows, tuple([len(places) for places in free]), tuple(inner)), into


def rest(module, other, passage):
    """The rest of a passage, as (rest, onto)."""
    check_pair(module, other)
    check_passage(module, other, passage)
    # Turned, the rest is the kernel of the turned passage.
    told, into = kernel_of(turn(other), turned_over(passage, module[2]))
    return turn(told), turned_over(into, told[2])


def turned_over(matrices, columns):
    """The transposed matrices, by their numbers of columns."""
    return tuple([transposed(matrix, many) for matrix, many in zip(matrices, columns)])


def stacked(told, spaces):
    """For each space, the rows of the matrices of several passages from one module in one matrix."""
    return tuple([tuple([row for passage in told for row in passage[v]]) for v in range(spaces)])
