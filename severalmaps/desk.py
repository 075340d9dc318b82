"""A desk that keeps modules under names, and is operated by lines of words."""

from severalmaps.alike import alike, tells
from severalmaps.copies import covered_by, made_of, seen_by
from severalmaps.errors import BadLine, BadText, TooLarge
from severalmaps.modules import add, are_of_one_kind, turn
from severalmaps.numbers import fellows
from severalmaps.parts import common, part_of
from severalmaps.passages import number
from severalmaps.texts import format_module, parse_module, written_numbers

LETTERS = "abcdefghijklmnopqrstuvwxyz"
MOST_LETTERS = 8

# The words that ask about kept modules, and about how many of them.
QUESTIONS = {
    "show": 1, "fellows": 1, "tell": 3, "number": 2, "common": 2,
    "alike": 2, "part": 2, "made": 2, "covered": 2, "seen": 2,
}


class Desk:
    """Keeps modules under names."""

    def __init__(self):
        self.kept = {}

    def do(self, line):
        """Carries out a line, and returns its answer."""
        words = words_of(line)
        word, names = words[0], words[1:]
        many = len(names)
        # What a line lacks is found out before anything is kept or forgotten.
        if word == "let" and many > 0:
            return self.keep(names[0], read(names[1:]))
        if word == "sum" and many == 3:
            return self.keep_sum(names[0], self.module_of(names[1]), self.module_of(names[2]))
        if word == "turn" and many == 2:
            return self.keep(names[0], turn(self.module_of(names[1])))
        if word == "drop" and many == 1:
            return self.forget(names[0])
        if word == "names" and many == 0:
            return " ".join(sorted(self.kept)) or "none"
        if word in QUESTIONS and many == QUESTIONS[word]:
            return answer(word, [self.module_of(name) for name in names])
        raise BadLine("no line has these words")

    def module_of(self, name):
        """The module that is kept under a name."""
        if name not in self.kept:
            raise BadLine("nothing is kept under this name")
        return self.kept[name]

    def keep(self, name, module):
        """Keeps a module under a name."""
        check_name(name)
        self.kept[name] = module
        return "ok"

    def keep_sum(self, name, module, other):
        """Keeps the sum of two modules under a name, if they have one."""
        check_name(name)
        if not are_of_one_kind(module, other):
            return "unlike"
        try:
            total = add(module, other)
        except TooLarge:
            return "too large"
        return self.keep(name, total)

    def forget(self, name):
        """Forgets what is kept under a name."""
        self.module_of(name)
        del self.kept[name]
        return "ok"


def words_of(line):
    """The words of a line, which single blanks separate."""
    if type(line) != str:
        raise BadLine("this is no text")
    words = line.split(" ")
    if "" in words:
        raise BadLine("the line begins or ends with a blank, or has two together")
    return words


def check_name(text):
    """Raises BadLine for what is no name."""
    if len(text) > MOST_LETTERS or [sign for sign in text if sign not in LETTERS]:
        raise BadLine("a name is not of 1 to 8 lower case letters")


def read(words):
    """The module whose textual form has these words."""
    try:
        return parse_module(" ".join(words))
    except BadText:
        raise BadLine("this is no textual form of a module") from None


def answer(word, modules):
    """The answer to a question about modules."""
    if not all([are_of_one_kind(modules[0], module) for module in modules]):
        return "unlike"
    try:
        return told(word, modules)
    except TooLarge:
        return "too large"


def told(word, modules):
    """The answer to a question about modules of one kind; TooLarge where the question is."""
    if word == "show":
        return format_module(modules[0])
    if word == "fellows":
        return str(fellows(modules[0]))
    if word == "tell":
        return yes_or_no(tells(modules[0], modules[1], modules[2]))
    module, other = modules
    if word == "number":
        return str(number(module, other))
    if word == "common":
        return written_numbers(common(module, other)[0][0][2])
    return yes_or_no(paper(word, module, other)[0] == word)


def yes_or_no(holds):
    """The answer that tells whether something holds."""
    if holds:
        return "yes"
    return "no"


def paper(word, module, other):
    """The paper whose form tells, by its first word, whether what the word asks for holds."""
    if word == "alike":
        return alike(module, other)
    if word == "part":
        return part_of(module, other)
    if word == "made":
        return made_of(module, other)
    if word == "covered":
        return covered_by(module, other)
    return seen_by(module, other)
