"""How many changes of basis lead a small module to itself, and how many modules it can be led to."""

from severalmaps.errors import TooLarge
from severalmaps.matrices import null_space
from severalmaps.modules import check_small
from severalmaps.passages import listed, passages, unfolded

MOST_PASSAGES = 4096


def units(module):
    """The number of the invertible passages from a small module to itself."""
    check_small(module)
    p = module[0]
    basis = passages(module, module)
    if power(p, len(basis)) > MOST_PASSAGES:
        raise TooLarge("there are more than 4096 passages")
    found = [unfolded(module, module, numbers) for numbers in all_mixed(module, basis)]
    return len([passage for passage in found if is_invertible(passage, p)])


def fellows(module):
    """The number of the modules of a small module's kind and dims that are alike to it."""
    many = units(module)
    changes = 1
    for dim in module[2]:
        changes = changes * invertible_matrices(dim, module[0])
    # As many changes lead to each of these modules as to the module itself.
    return changes // many


def power(p, many):
    """The product of as many factors p."""
    total = 1
    for _ in range(many):
        total = total * p
    return total


def all_mixed(module, basis):
    """All sums of multiples of a basis of passages, each as a list of its numbers."""
    p, _, dims, _ = module
    told = [[0] * sum([dim * dim for dim in dims])]
    for passage in basis:
        numbers = listed(passage)
        multiples = [[scale * entry for entry in numbers] for scale in range(p)]
        told = [
            [(one + two) % p for one, two in zip(total, multiple)]
            for total in told for multiple in multiples
        ]
    return told


def is_invertible(passage, p):
    """Tells whether the square matrices of a passage are invertible."""
    return not any([null_space(matrix, len(matrix), p)[0] for matrix in passage])


def invertible_matrices(many, p):
    """The number of the invertible matrices with as many rows and columns."""
    # No column is a sum of multiples of those ahead of it.
    total = 1
    for at in range(many):
        total = total * (power(p, many) - power(p, at))
    return total
