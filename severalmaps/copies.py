"""Papers that a module is made of copies of another one, covered by it, or seen by it."""

from severalmaps.matrices import combination, is_matrix, is_row, null_space, reciprocal, transposed
from severalmaps.modules import check_small_pair
from severalmaps.papers import is_paper
from severalmaps.passages import composed, identity, leads, listed, mix, passages, stacked, turned_over, unfolded


def made_of(module, other):
    """A paper that tells whether module is made of other."""
    check_small_pair(module, other)
    ahead, behind = passages(module, other), passages(other, module)
    loops = [listed(composed(module, first, second)) for first in ahead for second in behind]
    numbers = combination(loops, listed(identity(module)), module[0])
    if numbers is None:
        return "not", reading_against(module, loops)
    many = len(behind)
    pairs = []
    for at, first in enumerate(ahead):
        chosen = numbers[at * many:(at + 1) * many]
        if any(chosen):
            pairs.append((first, mix(other, module, tuple(behind), chosen)))
    return "made", tuple(pairs)


def reading_against(module, loops):
    """A reading that is 0 at listed loops and 1 at the identity, which is no sum of multiples of them."""
    p, _, dims, _ = module
    unit = listed(identity(module))
    free, into = null_space(loops, len(unit), p)
    rows = [row for row in transposed(into, len(free)) if product_sum(row, unit, p)]
    scale = reciprocal(product_sum(rows[0], unit, p), p)
    # The trace of a product adds up each number of the one matrix times the
    # number of the other one that stands at the turned place.
    return turned_over(unfolded(module, module, [scale * number % p for number in rows[0]]), dims)


def product_sum(numbers, others, p):
    """The sum of the products of the numbers at the same places."""
    return sum([one * two for one, two in zip(numbers, others)]) % p


def is_made_paper(module, other, paper):
    """Tells whether a paper tells rightly whether module is made of other."""
    check_small_pair(module, other)
    if is_paper(paper, "made", 2):
        return are_pairs(module, other, paper[1]) and add_up(module, paper[1])
    if not is_paper(paper, "not", 2) or not is_reading(module, paper[1]):
        return False
    return reads_against(module, other, paper[1])


def are_pairs(module, other, thing):
    """Tells whether a thing is a tuple of pairs of a passage to the other module and one back."""
    if type(thing) != tuple:
        return False
    if [pair for pair in thing if type(pair) != tuple or len(pair) != 2]:
        return False
    return all([leads(module, other, there) and leads(other, module, back) for there, back in thing])


def add_up(module, pairs):
    """Tells whether the passages to and fro add up to the identity of the module."""
    loops = tuple([composed(module, there, back) for there, back in pairs])
    return mix(module, module, loops, (1,) * len(loops)) == identity(module)


def is_reading(module, thing):
    """Tells whether a thing is a reading of a module."""
    dims = module[2]
    if type(thing) != tuple or len(thing) != len(dims):
        return False
    return all([is_matrix(matrix, dim, dim, module[0]) for matrix, dim in zip(thing, dims)])


def reads_against(module, other, reading):
    """Tells whether a reading is 0 at each passage by way of the other module and 1 at the identity."""
    # With its matrices turned, the products are those of the numbers at the same places.
    numbers = listed(turned_over(reading, module[2]))
    if product_sum(numbers, listed(identity(module)), module[0]) != 1:
        return False
    ahead, behind = passages(module, other), passages(other, module)
    loops = [composed(module, there, back) for there in ahead for back in behind]
    return not any([product_sum(numbers, listed(loop), module[0]) for loop in loops])


def covered_by(module, other):
    """A paper that tells whether module is covered by other."""
    check_small_pair(module, other)
    told = tuple(passages(other, module))
    missed = missed_place(module, columns_of(other, told))
    if missed is None:
        return "covered", told
    return ("not",) + missed


def seen_by(module, other):
    """A paper that tells whether module is seen by other."""
    check_small_pair(module, other)
    told = tuple(passages(module, other))
    missed = missed_place(module, rows_of(module, told))
    if missed is None:
        return "seen", told
    return ("not",) + missed


def rows_of(module, told):
    """For each space, the rows of the passages from a module in one matrix."""
    return stacked(told, len(module[2]))


def columns_of(module, told):
    """For each space, the columns of the passages from a module as the rows of one matrix."""
    return stacked([turned_over(passage, module[2]) for passage in told], len(module[2]))


def missed_place(module, stacks):
    """A space and numbers, not all 0, whose product with each row of its stack is 0, or None."""
    for space, dim in enumerate(module[2]):
        free, into = null_space(stacks[space], dim, module[0])
        if free:
            return space, tuple([row[0] for row in into])
    return None


def is_covered_paper(module, other, paper):
    """Tells whether a paper tells rightly whether module is covered by other."""
    check_small_pair(module, other)
    if is_paper(paper, "covered", 2):
        told = paper[1]
        return are_passages(other, module, told) and missed_place(module, columns_of(other, told)) is None
    if not is_paper(paper, "not", 3):
        return False
    return is_missed(module, columns_of(other, passages(other, module)), paper[1], paper[2])


def is_seen_paper(module, other, paper):
    """Tells whether a paper tells rightly whether module is seen by other."""
    check_small_pair(module, other)
    if is_paper(paper, "seen", 2):
        told = paper[1]
        return are_passages(module, other, told) and missed_place(module, rows_of(module, told)) is None
    if not is_paper(paper, "not", 3):
        return False
    return is_missed(module, rows_of(module, passages(module, other)), paper[1], paper[2])


def are_passages(module, other, thing):
    """Tells whether a thing is a tuple of passages from module to other."""
    return type(thing) == tuple and all([leads(module, other, passage) for passage in thing])


def is_missed(module, stacks, space, numbers):
    """Tells whether these are a space and numbers, not all 0, whose products with its stack are 0."""
    if type(space) != int or not 0 <= space < len(module[2]):
        return False
    if not is_row(numbers, module[2][space], module[0]) or not any(numbers):
        return False
    return not any([product_sum(row, numbers, module[0]) for row in stacks[space]])
