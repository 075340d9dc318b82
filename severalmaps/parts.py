"""Parts of modules, and what two modules have in common."""

from severalmaps.matrices import times, unit_matrix
from severalmaps.modules import add, check_module, check_small_pair, is_of_kind, size
from severalmaps.papers import is_paper
from severalmaps.passages import composed, identity, leads
from severalmaps.pieces import common_piece, lasting_pair, split_off


def is_split(module, split):
    """Tells whether this is a split of a module."""
    check_module(module)
    return splits(module, split)


def splits(module, thing):
    """Tells whether a thing is a split of what is known to be a module."""
    if type(thing) != tuple or len(thing) != 6:
        return False
    part, remaining, into, onto, into_rest, onto_rest = thing
    if not is_of_kind(module, part) or not is_of_kind(module, remaining):
        return False
    if not leads(part, module, into) or not leads(module, part, onto):
        return False
    if not leads(remaining, module, into_rest) or not leads(module, remaining, onto_rest):
        return False
    # All conditions together: the ways in, side by side, are inverse to the ways out.
    ways_in, ways_out = beside(into, into_rest), above(onto, onto_rest)
    return all([are_inverse(first, second, module[0]) for first, second in zip(ways_in, ways_out)])


def beside(passage, other):
    """For each space, the matrix with the columns of both matrices."""
    return tuple([
        tuple([row + line for row, line in zip(first, second)])
        for first, second in zip(passage, other)
    ])


def above(passage, other):
    """For each space, the matrix with the rows of both matrices."""
    return tuple([first + second for first, second in zip(passage, other)])


def are_inverse(matrix, other, p):
    """Tells whether two matrices are inverse to each other."""
    many = len(matrix)
    # Of square matrices one product tells: the other one is the identity then, too.
    return many == len(other) and times(matrix, other, many, p) == unit_matrix(many)


def strangers(module, other):
    """Tells whether two small modules have no common part but those of size 0."""
    check_small_pair(module, other)
    return lasting_pair(module, other) is None


def common(module, other):
    """Splits of two small modules with equal parts, whose rests are strangers."""
    check_small_pair(module, other)
    return shared(module, other)


def shared(module, other):
    """What common returns, for what are known to be small modules of one kind."""
    pieces = common_piece(module, other)
    if pieces is None:
        return without_part(module), without_part(other)
    first, second = pieces
    inner, other_inner = shared(first[1], second[1])
    return merged(module, first, inner), merged(other, second, other_inner)


def without_part(module):
    """The split of a module with a part of size 0."""
    p, arrows, dims, _ = module
    nothing = (p, arrows, (0,) * len(dims), ((),) * len(arrows))
    return split_off(module, nothing, tuple([((),) * dim for dim in dims]), ((),) * len(dims))


def merged(module, split, inner):
    """The split of a module whose part is that of a split and that of its rest's inner split."""
    part, _, into, onto, into_rest, onto_rest = split
    added, remaining, inner_into, inner_onto, inner_into_rest, inner_onto_rest = inner
    return (
        add(part, added),
        remaining,
        beside(into, composed(added, inner_into, into_rest)),
        above(onto, composed(module, onto_rest, inner_onto)),
        composed(remaining, inner_into_rest, into_rest),
        composed(module, onto_rest, inner_onto_rest),
    )


def part_of(module, other):
    """A paper that tells whether module is a part of other."""
    split, other_split = common(module, other)
    if size(split[1]) > 0:
        return "not", split, other_split
    return ("part",) + by_the_part(module, other, split, other_split)


def by_the_part(module, other, split, other_split):
    """The passages to the other module and back that go by the equal parts of two splits."""
    there = composed(module, split[3], other_split[2])
    return there, composed(other, other_split[3], split[2])


def is_part_paper(module, other, paper):
    """Tells whether a paper tells rightly whether module is a part of other."""
    check_small_pair(module, other)
    if is_paper(paper, "part", 3):
        return is_way_back(module, other, paper[1], paper[2])
    if not is_paper(paper, "not", 3):
        return False
    _, split, other_split = paper
    if not splits(module, split) or not splits(other, other_split):
        return False
    if split[0] != other_split[0] or size(split[1]) == 0:
        return False
    return strangers(split[1], other_split[1])


def is_way_back(module, other, there, back):
    """Tells whether two things are passages to the other module and back that are the identity together."""
    if not leads(module, other, there) or not leads(other, module, back):
        return False
    return composed(module, there, back) == identity(module)
