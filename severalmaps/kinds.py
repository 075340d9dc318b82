"""Lists, pencils and systems of subspaces: their modules, and when two of them are alike."""

from severalmaps.alike import alike
from severalmaps.errors import BadArgument
from severalmaps.matrices import combination, is_matrix, transposed
from severalmaps.modules import MOST_ARROWS, SMALL_SIZE, are_dims, is_prime

MOST_SUBSPACES = 3


def list_module(p, n, matrices):
    """The module of a list."""
    check_numbers(p, (n,))
    check_matrices(p, n, n, matrices)
    return p, ((0, 0),) * len(matrices), (n,), matrices


def pencil_module(p, rows, columns, matrices):
    """The module of a pencil."""
    check_numbers(p, (rows, columns))
    check_matrices(p, rows, columns, matrices)
    return p, ((0, 1),) * len(matrices), (columns, rows), matrices


def system_module(p, n, matrices):
    """The module of a system."""
    check_numbers(p, (n,))
    check_system(p, n, matrices)
    bases = [kept_columns(matrix, p) for matrix in matrices]
    arrows = tuple([(at + 1, 0) for at in range(len(bases))])
    dims = (n,) + tuple([len(basis) for basis in bases])
    return p, arrows, dims, tuple([transposed(basis, n) for basis in bases])


def check_numbers(p, numbers):
    """Raises BadArgument for a p that is no prime, or for numbers of rows or columns that are none."""
    if not is_prime(p):
        raise BadArgument("p is none of the primes")
    if not are_dims(numbers) or sum(numbers) > SMALL_SIZE:
        raise BadArgument("the numbers of rows and columns are out of their bounds")


def check_matrices(p, rows, columns, thing):
    """Raises BadArgument for what is no tuple of up to five matrices of this form."""
    if type(thing) != tuple or len(thing) > MOST_ARROWS:
        raise BadArgument("the matrices are not a tuple of at most five")
    if not all([is_matrix(matrix, rows, columns, p) for matrix in thing]):
        raise BadArgument("a matrix has not this form")


def check_system(p, n, thing):
    """Raises BadArgument for what is no tuple of up to three matrices with n rows."""
    if type(thing) != tuple or len(thing) > MOST_SUBSPACES:
        raise BadArgument("the matrices are not a tuple of at most three")
    if not all([is_matrix(matrix, n, width(matrix), p) for matrix in thing]):
        raise BadArgument("a matrix has not this number of rows")


def width(thing):
    """The number of columns of the first row of a thing, if it is a matrix."""
    if type(thing) != tuple or len(thing) == 0 or type(thing[0]) != tuple:
        return 0
    return len(thing[0])


def kept_columns(matrix, p):
    """The columns of a matrix that are not sums of multiples of columns ahead of them."""
    kept = []
    for column in transposed(matrix, width(matrix)):
        # As many as there are rows span everything already.
        if len(kept) < len(matrix) and combination(kept, column, p) is None:
            kept.append(column)
    return kept


def same_lists(p, n, matrices, others):
    """The matrix that leads one list to another one, or a module that tells their modules apart."""
    return compared(list_module(p, n, matrices), list_module(p, n, others), (0,))


def same_pencils(p, rows, columns, matrices, others):
    """The matrices that lead one pencil to another one, or a module that tells their modules apart."""
    module = pencil_module(p, rows, columns, matrices)
    return compared(module, pencil_module(p, rows, columns, others), (1, 0))


def same_systems(p, n, matrices, others):
    """The matrix that leads one system to another one, or a module that tells their modules apart."""
    return compared(system_module(p, n, matrices), system_module(p, n, others), (0,))


def compared(module, other, spaces):
    """A paper of likeness, of which a passage there is told for these spaces alone."""
    # Unlike numbers of matrices make unlike kinds, which alike does not take.
    paper = alike(module, other)
    if paper[0] == "apart":
        return paper
    return ("alike",) + tuple([paper[1][space] for space in spaces])
