"""The textual form of modules."""

from severalmaps.errors import BadText
from severalmaps.modules import are_arrows, check_module, is_module

DIGITS = "0123456789"
# No number of a module has more digits: its size is at most 125.
MOST_DIGITS = 3


def format_module(module):
    """The textual form of a module."""
    check_module(module)
    return written(module)


def written(module):
    """The textual form of what is known to be a module."""
    p, arrows, dims, maps = module
    ways = " ".join([f"{s}>{t}" for s, t in arrows]) or "none"
    tables = " | ".join([written_matrix(matrix) for matrix in maps]) or "none"
    return f"p {p}; arrows {ways}; dims {written_numbers(dims)}; maps {tables}"


def written_matrix(matrix):
    """The textual form of a matrix."""
    return " / ".join([written_numbers(row) or "-" for row in matrix]) or "-"


def written_numbers(numbers):
    """Numbers with single blanks between them."""
    return " ".join([str(number) for number in numbers])


def parse_module(text):
    """The module that has this text as its textual form."""
    if type(text) != str:
        raise BadText("this is no text")
    module = read_module(text)
    # The reading lets other texts by as well: but a module has just one textual form.
    if not is_module(module) or written(module) != text:
        raise BadText("this is no textual form of a module")
    return module


def read_module(text):
    """What a text tells, at least if it is a textual form."""
    parts = [part.partition(" ")[2] for part in text.split("; ")]
    if len(parts) != 4:
        raise BadText("the text has not four parts")
    p, dims = read_number(parts[0]), read_numbers(parts[2])
    arrows = tuple([read_arrow(word) for word in several(parts[1], " ")])
    if not are_arrows(arrows, len(dims)):
        raise BadText("an arrow has an end that is no space")
    tables = several(parts[3], " | ")
    maps = [read_matrix(table, dims[t], dims[s]) for table, (s, t) in zip(tables, arrows)]
    return p, arrows, dims, tuple(maps)


def several(text, between):
    """The texts that have this between them; none of them for the word that says so."""
    if text == "none":
        return []
    return text.split(between)


def read_arrow(text):
    """The arrow that a text tells."""
    ends = text.split(">")
    if len(ends) != 2:
        raise BadText("an arrow has not two ends")
    return read_number(ends[0]), read_number(ends[1])


def read_matrix(text, rows, columns):
    """The matrix with these numbers of rows and columns that a text tells."""
    if rows == 0:
        return ()
    lines = text.split(" / ")
    if columns == 0:
        return ((),) * len(lines)
    return tuple([read_numbers(line) for line in lines])


def read_numbers(text):
    """The numbers with single blanks between them that a text tells."""
    return tuple([read_number(word) for word in text.split(" ")])


def read_number(text):
    """The number that a text of digits tells."""
    if not 1 <= len(text) <= MOST_DIGITS:
        raise BadText("a number has no digits, or too many")
    if [sign for sign in text if sign not in DIGITS]:
        raise BadText("a number has a sign that is no digit")
    return int(text)
