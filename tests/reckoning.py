"""What papers and splits are to be, by the words of the document, reckoned plainly."""

from itertools import product

from severalmaps.errors import BadModule
from severalmaps.modules import check_module
from severalmaps.passages import number, passages
from tests.support import echelon, fits, flat, one_after_other, ones, plain_number, rank, times, zeros


def is_module(thing):
    try:
        check_module(thing)
    except BadModule:
        return False
    return True


def is_of_kind(module, thing):
    """Whether this is a module of the module's kind."""
    return is_module(thing) and thing[:2] == module[:2] and len(thing[2]) == len(module[2])


def size(module):
    return sum(module[2])


def plus(module, one, two):
    """The sum of two passages, where p is the module's."""
    return tuple(
        tuple(tuple((a + b) % module[0] for a, b in zip(row, line)) for row, line in zip(first, second))
        for first, second in zip(one, two)
    )


def scaled(module, passage, many):
    return tuple(tuple(tuple(many * a % module[0] for a in row) for row in matrix) for matrix in passage)


def is_identity(module, there, back):
    """Whether there and back again changes nothing."""
    return one_after_other(module, there, back) == ones(module[2])


def is_worded(thing, word, length):
    return type(thing) is tuple and len(thing) == length and type(thing[0]) is str and thing[0] == word


def is_pair(module, other, there, back):
    return fits(module, other, there) and fits(other, module, back)


def tells_apart(third, module, other):
    reckon = plain_number if size(third) <= 5 else number
    return reckon(third, module) != reckon(third, other)


def right_likeness(module, other, paper):
    """Point 5."""
    if is_worded(paper, "alike", 3):
        _, there, back = paper
        if not is_pair(module, other, there, back):
            return False
        return is_identity(module, there, back) and is_identity(other, back, there)
    if is_worded(paper, "apart", 2):
        return is_of_kind(module, paper[1]) and tells_apart(paper[1], module, other)
    return False


def right_split(module, split):
    """Point 7."""
    if type(split) is not tuple or len(split) != 6:
        return False
    part, rest, into, onto, into_rest, onto_rest = split
    if not is_of_kind(module, part) or not is_of_kind(module, rest):
        return False
    if not is_pair(part, module, into, onto) or not is_pair(rest, module, into_rest, onto_rest):
        return False
    if not is_identity(part, into, onto) or not is_identity(rest, into_rest, onto_rest):
        return False
    if one_after_other(rest, into_rest, onto) != zeros(rest, part):
        return False
    if one_after_other(part, into, onto_rest) != zeros(part, rest):
        return False
    one, two = one_after_other(module, onto, into), one_after_other(module, onto_rest, into_rest)
    return plus(module, one, two) == ones(module[2])


def unflat(module, numbers):
    """The matrices from module to module with these numbers."""
    numbers = list(numbers)
    told = []
    for dim in module[2]:
        told.append(tuple(tuple(numbers[i * dim:(i + 1) * dim]) for i in range(dim)))
        numbers = numbers[dim * dim:]
    return tuple(told)


def are_strangers(module, other):
    """Point 6: products of as many passages to and fro by one passage there as can be are 0."""
    backs = passages(other, module)
    for there in passages(module, other):
        loops = [one_after_other(module, there, back) for back in backs]
        power = loops
        # Each further product spans less, down from at most 25, or the same for ever.
        for _ in range(26):
            rows = echelon([flat(one_after_other(module, one, two)) for one in power for two in loops], module[0])
            if not rows:
                break
            power = [unflat(module, row) for row in rows]
        else:
            return False
    return True


def all_passages(module, other, most=3000):
    """All passages, or None if there are more than this."""
    p, basis = module[0], passages(module, other)
    many = 1
    for _ in basis:
        many *= p
    if many > most:
        return None
    told = []
    for numbers in product(range(p), repeat=len(basis)):
        total = zeros(module, other)
        for scale, passage in zip(numbers, basis):
            total = plus(module, total, scaled(module, passage, scale))
        told.append(total)
    return told


def largest_common(module, other, most=3000):
    """The size of the largest common part, by trying all passages there and back, or None if these are too many.

    A common part is led to itself by some passage there and back, and what a
    high power of such a one leaves is a common part.
    """
    ahead, behind = all_passages(module, other, most), all_passages(other, module, most)
    if ahead is None or behind is None or len(ahead) * len(behind) > most:
        return None
    best = 0
    for there in ahead:
        for back in behind:
            loop = one_after_other(module, there, back)
            power = loop
            for _ in range(3):
                power = one_after_other(module, power, power)
            best = max(best, sum(rank(matrix, module[0]) for matrix in power))
    return best


def right_part(module, other, paper):
    """Point 9."""
    if is_worded(paper, "part", 3):
        return is_pair(module, other, paper[1], paper[2]) and is_identity(module, paper[1], paper[2])
    if not is_worded(paper, "not", 3):
        return False
    _, split, other_split = paper
    if not right_split(module, split) or not right_split(other, other_split):
        return False
    if split[0] != other_split[0] or size(split[1]) == 0:
        return False
    return are_strangers(split[1], other_split[1])


def value(module, reading, passage):
    """The value of a reading at a passage from module to module: point 10."""
    total = 0
    for matrix, other in zip(reading, passage):
        table = times(matrix, other, len(matrix), module[0])
        total += sum(table[at][at] for at in range(len(table)))
    return total % module[0]


def right_made(module, other, paper):
    """Point 10."""
    if is_worded(paper, "made", 2) and type(paper[1]) is tuple:
        total = zeros(module, module)
        for pair in paper[1]:
            if type(pair) is not tuple or len(pair) != 2 or not is_pair(module, other, *pair):
                return False
            total = plus(module, total, one_after_other(module, *pair))
        return total == ones(module[2])
    # A reading has the form of a passage of the module without its arrows.
    plain = (module[0], (), module[2], ())
    if not is_worded(paper, "not", 2) or not fits(plain, plain, paper[1]):
        return False
    if value(module, paper[1], ones(module[2])) != 1:
        return False
    return not any(
        value(module, paper[1], one_after_other(module, there, back))
        for there in passages(module, other) for back in passages(other, module)
    )


def is_place(module, space, numbers):
    """Whether these are a space and as many numbers as its dimension, not all 0."""
    if type(space) is not int or not 0 <= space < len(module[2]):
        return False
    if type(numbers) is not tuple or len(numbers) != module[2][space]:
        return False
    return all(type(n) is int and 0 <= n < module[0] for n in numbers) and any(numbers)


def columns(matrix):
    return [list(column) for column in zip(*matrix)]


def right_covered(module, other, paper):
    """Point 11."""
    if is_worded(paper, "covered", 2) and type(paper[1]) is tuple:
        if not all(fits(other, module, passage) for passage in paper[1]):
            return False
        return all(
            rank([column for passage in paper[1] for column in columns(passage[v])], module[0]) == dim
            for v, dim in enumerate(module[2])
        )
    if not is_worded(paper, "not", 3) or not is_place(module, *paper[1:]):
        return False
    _, space, row = paper
    return not any(
        sum(a * b for a, b in zip(row, column)) % module[0]
        for passage in passages(other, module) for column in columns(passage[space])
    )


def right_seen(module, other, paper):
    """Point 11."""
    if is_worded(paper, "seen", 2) and type(paper[1]) is tuple:
        if not all(fits(module, other, passage) for passage in paper[1]):
            return False
        return all(
            rank([row for passage in paper[1] for row in passage[v]], module[0]) == dim
            for v, dim in enumerate(module[2])
        )
    if not is_worded(paper, "not", 3) or not is_place(module, *paper[1:]):
        return False
    _, space, column = paper
    return not any(
        sum(a * b for a, b in zip(row, column)) % module[0]
        for passage in passages(module, other) for row in passage[space]
    )
