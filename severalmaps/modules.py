"""Modules: spaces over the numbers modulo a prime, with linear maps between them."""

from severalmaps.errors import BadArgument, BadModule, TooLarge
from severalmaps.matrices import inverted, is_matrix, times, transposed

PRIMES = (2, 3, 5, 7, 11, 13)
MOST_ARROWS = 5
MOST_SPACES = 4
MOST_SIZE = 125
SMALL_SIZE = 5


def check_module(module):
    """Raises BadModule if this is no module."""
    if not is_module(module):
        raise BadModule("this is no module")


def is_module(thing):
    """Tells whether a thing is a module."""
    if type(thing) != tuple or len(thing) != 4:
        return False
    p, arrows, dims, maps = thing
    if not is_prime(p) or not are_dims(dims) or not are_arrows(arrows, len(dims)):
        return False
    return are_maps(maps, p, arrows, dims)


def is_prime(thing):
    """Tells whether a thing is one of the primes."""
    return type(thing) == int and thing in PRIMES


def are_dims(thing):
    """Tells whether a thing can be the dims of a module."""
    if type(thing) != tuple or not 1 <= len(thing) <= MOST_SPACES:
        return False
    return not [dim for dim in thing if type(dim) != int or dim < 0] and sum(thing) <= MOST_SIZE


def are_arrows(thing, spaces):
    """Tells whether a thing can be the arrows between this many spaces."""
    if type(thing) != tuple or len(thing) > MOST_ARROWS:
        return False
    return all([is_arrow(arrow, spaces) for arrow in thing])


def is_arrow(thing, spaces):
    """Tells whether a thing is a pair of two of this many spaces."""
    if type(thing) != tuple or len(thing) != 2:
        return False
    return not [space for space in thing if type(space) != int or not 0 <= space < spaces]


def are_maps(thing, p, arrows, dims):
    """Tells whether a thing has the right matrix for each arrow."""
    if type(thing) != tuple or len(thing) != len(arrows):
        return False
    return all([is_matrix(matrix, dims[t], dims[s], p) for matrix, (s, t) in zip(thing, arrows)])


def are_of_one_kind(module, other):
    """Tells whether two modules are of one kind."""
    return module[:2] == other[:2] and len(module[2]) == len(other[2])


def is_of_kind(module, thing):
    """Tells whether a thing is a module of a module's kind."""
    return is_module(thing) and are_of_one_kind(module, thing)


def check_kind(module, other):
    """Raises BadArgument if two modules are of unlike kinds."""
    if not are_of_one_kind(module, other):
        raise BadArgument("the modules are of unlike kinds")


def check_pair(module, other):
    """Checks that two arguments are modules, and of one kind."""
    check_module(module)
    check_module(other)
    check_kind(module, other)


def check_small(module):
    """Checks that an argument is a module, and small."""
    check_module(module)
    if not is_small(module):
        raise TooLarge("the module is not small")


def check_small_pair(module, other):
    """Checks that two arguments are modules, of one kind, and small."""
    check_pair(module, other)
    if not is_small(module) or not is_small(other):
        raise TooLarge("a module is not small")


def size(module):
    """The sum of a module's dims."""
    return sum(module[2])


def is_small(module):
    """Tells whether a module is small."""
    return size(module) <= SMALL_SIZE


def add(module, other):
    """The sum of two modules."""
    check_pair(module, other)
    if size(module) + size(other) > MOST_SIZE:
        raise TooLarge("the sum has a size above 125")
    p, arrows, dims, maps = module
    others = other[2]
    added = [
        blocks(first, second, dims[s], others[s])
        for (s, _), first, second in zip(arrows, maps, other[3])
    ]
    return p, arrows, tuple([one + two for one, two in zip(dims, others)]), tuple(added)


def blocks(first, second, columns, others):
    """The matrix with two matrices, of these numbers of columns, and 0 elsewhere."""
    upper = [row + (0,) * others for row in first]
    lower = [(0,) * columns + row for row in second]
    return tuple(upper + lower)


def turned(module):
    """The turned module."""
    check_module(module)
    return turn(module)


def turn(module):
    """The turned module of what is known to be a module."""
    p, arrows, dims, maps = module
    back = [transposed(matrix, dims[s]) for matrix, (s, _) in zip(maps, arrows)]
    return p, tuple([(t, s) for s, t in arrows]), dims, tuple(back)


def led(module, changes):
    """The module that changes of basis lead a module to."""
    check_module(module)
    p, arrows, dims, maps = module
    back = inverse_changes(changes, dims, p)
    moved = [
        times(times(changes[t], matrix, dims[s], p), back[s], dims[s], p)
        for matrix, (s, t) in zip(maps, arrows)
    ]
    return p, arrows, dims, tuple(moved)


def inverse_changes(changes, dims, p):
    """The inverse matrices of changes of basis; BadArgument for what is none."""
    if type(changes) != tuple or len(changes) != len(dims):
        raise BadArgument("the changes are not a tuple of a matrix for each space")
    if not all([is_matrix(matrix, dim, dim, p) for matrix, dim in zip(changes, dims)]):
        raise BadArgument("a change is no matrix of its space")
    back = [inverted(matrix, p) for matrix in changes]
    if None in back:
        raise BadArgument("a change is not invertible")
    return back
