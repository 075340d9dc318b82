"""Lists, pencils, systems, numbers, texts and a desk, by the words of the document, reckoned plainly."""

import re
from functools import lru_cache

from severalmaps.alike import alike
from severalmaps.copies import covered_by, made_of, seen_by
from severalmaps.parts import common, part_of
from severalmaps.passages import number
from tests import reckoning, support

NUMBER = "(?:0|[1-9][0-9]*)"
TEXT = re.compile(
    f"p ({NUMBER}); arrows (none|{NUMBER}>{NUMBER}(?: {NUMBER}>{NUMBER})*); dims ({NUMBER}(?: {NUMBER})*); maps ([-0-9 /|]+|none)"
)
NAME = re.compile("[a-z]{1,8}")


# Lists, pencils, systems: point 12.

def list_of(p, n, matrices):
    return (p, tuple((0, 0) for _ in matrices), (n,), tuple(matrices))


def pencil_of(p, rows, columns, matrices):
    return (p, tuple((0, 1) for _ in matrices), (columns, rows), tuple(matrices))


def chosen(n, matrix, p):
    """The columns by which the number of columns that are no sums of others grows."""
    told = []
    for column in zip(*matrix):
        if support.rank(told + [column], p) > len(told):
            told.append(column)
    return told


def system_of(p, n, matrices):
    bases = [chosen(n, matrix, p) for matrix in matrices]
    maps = tuple(tuple(tuple(column[i] for column in basis) for i in range(n)) for basis in bases)
    return (p, tuple((k + 1, 0) for k in range(len(bases))), (n,) + tuple(map(len, bases)), maps)


def is_change(p, n, matrix):
    """Whether this is an invertible matrix with n rows, of plain numbers."""
    plain = (p, (), (n,), ())
    return support.has_shape(plain, plain, (matrix,)) and support.rank(matrix, p) == n


def leads_list(p, n, matrix, matrices, others):
    return all(
        support.times(matrix, one, n, p) == support.times(two, matrix, n, p)
        for one, two in zip(matrices, others)
    )


def leads_pencil(p, columns, there, behind, matrices, others):
    return all(
        support.times(there, one, columns, p) == support.times(two, behind, columns, p)
        for one, two in zip(matrices, others)
    )


def spans_the_same(n, matrix, other, p):
    """Whether the columns of two matrices with n rows span the same."""
    one, two = [list(column) for column in zip(*matrix)], [list(column) for column in zip(*other)]
    return support.rank(one, p) == support.rank(two, p) == support.rank(one + two, p)


def leads_system(p, n, matrix, matrices, others):
    return all(
        spans_the_same(n, support.times(matrix, one, len(one[0]) if one else 0, p), two, p)
        for one, two in zip(matrices, others)
    )


def is_apart(result, module, other):
    """Whether this is a result with a module that tells these modules apart."""
    return reckoning.is_worded(result, "apart", 2) and reckoning.right_likeness(module, other, result)


def right_lists(p, n, matrices, others, result):
    if reckoning.is_worded(result, "alike", 2):
        return is_change(p, n, result[1]) and leads_list(p, n, result[1], matrices, others)
    return is_apart(result, list_of(p, n, matrices), list_of(p, n, others))


def right_pencils(p, rows, columns, matrices, others, result):
    if reckoning.is_worded(result, "alike", 3):
        _, there, behind = result
        if not is_change(p, rows, there) or not is_change(p, columns, behind):
            return False
        return leads_pencil(p, columns, there, behind, matrices, others)
    return is_apart(result, pencil_of(p, rows, columns, matrices), pencil_of(p, rows, columns, others))


def right_systems(p, n, matrices, others, result):
    if reckoning.is_worded(result, "alike", 2):
        return is_change(p, n, result[1]) and leads_system(p, n, result[1], matrices, others)
    return is_apart(result, system_of(p, n, matrices), system_of(p, n, others))


# Numbers: point 13.

def many_changes(p, dims):
    """The number of all changes: each row is no sum of multiples of those above it."""
    told = 1
    for n in dims:
        for i in range(n):
            told *= p ** n - p ** i
    return told


def count_units(module):
    """The number of changes that are passages from a module to it."""
    return sum(support.fits(module, module, change) for change in support.all_changes(module[0], module[2]))


def count_units_of_passages(module):
    """The number of the passages whose matrices have full rank."""
    told = reckoning.all_passages(module, module, 4096)
    return sum(support.ranks(passage, module[0]) == module[2] for passage in told)


# Texts: point 14.

def plain_row(row):
    return " ".join(map(str, row)) if row else "-"


def plain_matrix(matrix):
    return " / ".join(map(plain_row, matrix)) if matrix else "-"


def plain_text(module):
    p, arrows, dims, maps = module
    ways = " ".join(str(s) + ">" + str(t) for s, t in arrows) if arrows else "none"
    tables = " | ".join(map(plain_matrix, maps)) if maps else "none"
    return "p " + str(p) + "; arrows " + ways + "; dims " + plain_row(dims) + "; maps " + tables


def plain_module(text):
    """The module that has this text as its textual form, or None."""
    found = TEXT.fullmatch(text)
    if found is None or max(map(len, re.findall("[0-9]+", text))) > 3:
        return None
    p, ways, dims, tables = found.groups()
    dims = tuple(map(int, dims.split(" ")))
    arrows = () if ways == "none" else tuple(tuple(map(int, way.split(">"))) for way in ways.split(" "))
    if any(max(way) >= len(dims) for way in arrows) or (tables == "none") != (not arrows):
        return None
    tables = [] if tables == "none" else tables.split(" | ")
    maps = tuple(rows_of(table, dims[t]) for table, (_, t) in zip(tables, arrows))
    module = (int(p), arrows, dims, maps)
    right = reckoning.is_module(module) and len(tables) == len(arrows) and plain_text(module) == text
    return module if right else None


def rows_of(table, rows):
    """The rows in a table, or None."""
    if rows == 0:
        return () if table == "-" else None
    told = [[] if line == "-" else line.split(" ") for line in table.split(" / ")]
    if any(not re.fullmatch(NUMBER, word) for line in told for word in line):
        return None
    return tuple(tuple(map(int, line)) for line in told)


# The desk: point 15.

QUESTIONS = {"alike": 2, "common": 2, "part": 2, "made": 2, "covered": 2, "seen": 2, "fellows": 1}
PAPERS = {
    "alike": (alike, reckoning.right_likeness), "part": (part_of, reckoning.right_part), "made": (made_of, reckoning.right_made),
    "covered": (covered_by, reckoning.right_covered), "seen": (seen_by, reckoning.right_seen),
}


def is_small(module):
    return sum(module[2]) <= 5


@lru_cache(maxsize=None)
def plain_pair(module, other):
    """[module, other], or None if neither is small."""
    if not is_small(module) and not is_small(other):
        return None
    if sum(module[2]) * sum(other[2]) > 60:
        return number(module, other)
    return support.plain_number(module, other)


@lru_cache(maxsize=None)
def holds(word, module, other):
    """Whether a right paper has the form that this word tells."""
    tell, right = PAPERS[word]
    told = tell(module, other)
    assert right(module, other, told), (word, module, other, told)
    return told[0] == word


@lru_cache(maxsize=None)
def common_dims(module, other):
    """The dims of the largest common part, of which all are alike."""
    one, two = common(module, other)
    assert reckoning.right_split(module, one) and reckoning.right_split(other, two) and one[0] == two[0]
    assert reckoning.are_strangers(one[1], two[1])
    return one[0][2]


@lru_cache(maxsize=None)
def plain_fellows(module):
    """The number of fellows, or None if it is not told."""
    if not is_small(module) or module[0] ** plain_pair(module, module) > 4096:
        return None
    return many_changes(module[0], module[2]) // count_units_of_passages(module)


def plain_sum(module, other):
    """The sum of two modules, or None if it is too large."""
    if sum(module[2]) + sum(other[2]) > 125:
        return None
    p, arrows, dims, maps = module
    told = []
    for (s, _), one, two in zip(arrows, maps, other[3]):
        upper = [row + (0,) * other[2][s] for row in one]
        told.append(tuple(upper + [(0,) * dims[s] + row for row in two]))
    return (p, arrows, tuple(a + b for a, b in zip(dims, other[2])), tuple(told))


def plain_turned(module):
    p, arrows, dims, maps = module
    turned = tuple(tuple(tuple(row[j] for row in matrix) for j in range(dims[s])) for matrix, (s, _) in zip(maps, arrows))
    return (p, tuple((t, s) for s, t in arrows), dims, turned)


class PlainDesk:
    """What a desk is to answer; None stands for a BadLine."""

    def __init__(self):
        self.names = {}

    def do(self, line):
        word, _, more = line.partition(" ")
        if word == "let":
            name, _, text = more.partition(" ")
            module = plain_module(text)
            return None if module is None else self.keep(name, module)
        words = line.split(" ")[1:]
        wanted = {"sum": 3, "turn": 2, "drop": 1, "show": 1, "names": 0, "number": 2, "tell": 3, **QUESTIONS}.get(word)
        if wanted is None or wanted != len(words) or any(not NAME.fullmatch(name) for name in words):
            return None
        new = words[:1] if word in ("sum", "turn") else []
        modules = [self.names.get(name) for name in words[len(new):]]
        if None in modules:
            return None
        if len({(module[:2], len(module[2])) for module in modules}) > 1:
            return "unlike"
        told = self.answer(word, words, modules)
        return "too large" if told is None else told

    def keep(self, name, module):
        if not NAME.fullmatch(name):
            return None
        self.names[name] = module
        return "ok"

    def answer(self, word, words, modules):
        """The answer to a line of right words, or None for one that is too large."""
        if word in ("sum", "turn"):
            module = plain_sum(*modules) if word == "sum" else plain_turned(*modules)
            return None if module is None else self.keep(words[0], module)
        if word == "drop":
            del self.names[words[0]]
            return "ok"
        if word == "names":
            return " ".join(sorted(self.names)) if self.names else "none"
        if word == "show":
            return plain_text(modules[0])
        if word == "number":
            told = plain_pair(*modules)
            return None if told is None else str(told)
        if word == "tell":
            told = [plain_pair(modules[0], module) for module in modules[1:]]
            return None if None in told else "no" if told[0] == told[1] else "yes"
        if not all(map(is_small, modules)):
            return None
        if word == "fellows":
            told = plain_fellows(*modules)
            return None if told is None else str(told)
        if word == "common":
            return plain_row(common_dims(*modules))
        return "yes" if holds(word, *modules) else "no"
