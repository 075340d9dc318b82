"""Point 15: the desk, against a plain one; and what point 16 promises of its answers."""

import unittest

from severalmaps.desk import Desk
from severalmaps.errors import BadLine
from severalmaps.modules import led
from severalmaps.texts import format_module, parse_module
from tests import cases, plain, support

NAMES = ("a", "b", "c", "names", "abcdefgh")
WORDS = ("let", "sum", "turn", "drop", "show", "names", "number", "alike", "tell", "common", "part", "made", "covered", "seen", "fellows")
# How many names stand behind a word, if not two.
MANY = {"let": 1, "sum": 3, "turn": 2, "drop": 1, "show": 1, "names": 0, "tell": 3, "fellows": 1}
PAIRS = ("number", "alike", "common", "part", "made", "covered", "seen")

BAD_NAMES = (
    "A", "aB", "abcdefghi", "a1", "1", "a_b", "_", "-", "", "\u00e4", "\u00df", "\uff41", "a\n", "\ta", "a;", "a,b", "none!", "X", "\u0251", "a" * 100, "a.b",
)


def texts_of(rng, p):
    """Textual forms of modules of a few kinds: small ones, middle ones, and large ones."""
    told = []
    for arrows, several_dims in (
        (cases.LINE, ((1, 1), (1, 1), (2, 1), (0, 1), (2, 2), (3, 3))), (cases.LOOP, ((1,), (2,), (2,), (3,), (0,), (7,))), ((), ((1,), (2,), (5,))),
    ):
        for dims in several_dims:
            module = support.random_module(rng, p, arrows, dims)
            told.append(format_module(module))
            told.append(format_module(cases.moved(rng, module)))
            told.append(format_module(support.zero_module(p, arrows, dims)))
    told.append(format_module(support.zero_module(p, (), (125,))))
    told.append(format_module(support.zero_module(p, (), (63,))))
    return told


def drawn_line(rng, texts, names=NAMES):
    """A line of right words, though nothing may be kept under its names."""
    word = rng.choice(WORDS + ("let", "let", "sum", "alike", "common", "tell"))
    told = [word] + [rng.choice(names) for _ in range(MANY.get(word, 2))]
    return " ".join(told + [rng.choice(texts)] if word == "let" else told)


def spoiled_lines(rng, line):
    """The line with one thing spoiled, in a few ways."""
    words = line.split(" ")
    at = rng.randrange(len(words))
    told = [" " + line, line + " ", line.upper(), line + "\n", line + " a", "\t".join(words), line + ";", line.replace(" ", "  ", 1) + " "]
    told.append(" ".join(words[:at] + words[at + 1:]))
    told.append(" ".join(words[:at] + [words[at], words[at]] + words[at + 1:]))
    told.append(" ".join(words[:at] + [rng.choice(BAD_NAMES)] + words[at + 1:]))
    told.append(" ".join(words[:at] + ["zz"] + words[at + 1:]))
    return told


class DeskTest(unittest.TestCase):
    def answered(self, desk, line):
        """A desk's answer, or None for a BadLine."""
        try:
            told = desk.do(line)
        except BadLine as error:
            self.assertIs(type(error), BadLine)
            return None
        self.assertIs(type(told), str)
        return told

    def assert_keeps(self, desk, other):
        """The desk keeps just what the plain one does."""
        self.assertEqual(desk.do("names"), other.do("names"))
        for name in other.names:
            self.assertEqual(desk.do("show " + name), other.do("show " + name))

    def assert_refused(self, desk, *lines):
        for line in lines:
            with self.assertRaises(BadLine, msg=repr(line)) as caught:
                desk.do(line)
            self.assertIs(type(caught.exception), BadLine)

    def assert_answers(self, desk, *rows):
        for line, wanted in rows:
            self.assertEqual(desk.do(line), wanted, line)


class DrawnTest(DeskTest):
    def test_long_rows_of_lines(self):
        rng = support.source(121)
        seen = {}
        for p in support.PRIMES:
            texts = texts_of(rng, p)
            for _ in range(3):
                desk, other = Desk(), plain.PlainDesk()
                for _ in range(400):
                    line = drawn_line(rng, texts)
                    told = self.answered(desk, line)
                    self.assertEqual(told, other.do(line), line)
                    if told is None:
                        self.assert_keeps(desk, other)
                    seen.setdefault(line.split(" ")[0], []).append(told)
                self.assert_keeps(desk, other)
        self.assertEqual(set(seen), set(WORDS))
        for word in PAIRS + ("tell",):
            for wanted in ("unlike", "too large", None) + (("yes", "no") if word not in ("number", "common") else ()):
                self.assertIn(wanted, seen[word], word)
        for word, wanted in (("sum", "unlike"), ("sum", "ok"), ("fellows", "too large"), ("drop", "ok"), ("names", "none"), ("show", None)):
            self.assertIn(wanted, seen[word])
        self.assertGreater(len(set(seen["fellows"])), 8)
        self.assertGreater(len(set(seen["common"])), 8)
        self.assertGreater(len(set(seen["number"])), 8)

    def test_spoiled_lines(self):
        rng = support.source(122)
        refused, taken = 0, 0
        for p in (2, 7):
            texts = texts_of(rng, p)
            desk, other = Desk(), plain.PlainDesk()
            for _ in range(100):
                line = drawn_line(rng, texts)
                self.assertEqual(self.answered(desk, line), other.do(line))
                for wrong in spoiled_lines(rng, line):
                    told = self.answered(desk, wrong)
                    self.assertEqual(told, other.do(wrong), wrong)
                    refused += told is None
                    taken += told is not None
                self.assert_keeps(desk, other)
        self.assertGreater(refused, 1500)
        self.assertGreater(taken, 20)

    def test_desks_side_by_side(self):
        rng = support.source(123)
        texts = texts_of(rng, 3)
        desks = [(Desk(), plain.PlainDesk()) for _ in range(3)]
        for _ in range(400):
            desk, other = rng.choice(desks)
            line = drawn_line(rng, texts)
            self.assertEqual(self.answered(desk, line), other.do(line), line)
        for desk, other in desks:
            self.assert_keeps(desk, other)
        self.assertGreater(len({desk.do("show " + name) for desk, other in desks for name in other.names}), 5)
        self.assertEqual(Desk().do("names"), "none")

    def test_modules_in_other_bases(self):
        rng = support.source(124)
        for p in (2, 5, 13):
            for arrows, dims in cases.SMALL_SHAPES:
                module = support.random_module(rng, p, arrows, dims)
                other = led(module, support.random_changes(rng, module))
                desk = Desk()
                self.assert_answers(desk, ("let a " + format_module(module), "ok"), ("let b " + format_module(other), "ok"))
                self.assert_answers(desk, ("alike a b", "yes"), ("tell a a b", "no"), ("tell b a b", "no"))
                self.assert_answers(desk, ("common a b", " ".join(map(str, dims))), ("part a b", "yes"), ("seen b a", "yes"))
                self.assertEqual(desk.do("fellows a"), desk.do("fellows b"))


class WordsTest(DeskTest):
    LINE = "p 5; arrows 0>1; dims 1 1; maps 1"
    ENDS = "p 5; arrows 0>1; dims 1 1; maps 0"
    BEHIND = "p 5; arrows 0>1; dims 0 1; maps -"
    AHEAD = "p 5; arrows 0>1; dims 1 0; maps -"

    def desk(self):
        desk = Desk()
        self.assert_answers(
            desk, ("let line " + self.LINE, "ok"), ("let ends " + self.ENDS, "ok"), ("let behind " + self.BEHIND, "ok"),
            ("let ahead " + self.AHEAD, "ok"), ("let one p 5; arrows none; dims 1; maps none", "ok"),
            ("let none p 5; arrows 0>1; dims 0 0; maps -", "ok"),
        )
        return desk

    def test_keeping(self):
        desk = Desk()
        self.assert_answers(
            desk, ("names", "none"), ("let b " + self.LINE, "ok"), ("names", "b"), ("let a " + self.ENDS, "ok"), ("names", "a b"),
            ("show a", self.ENDS), ("show b", self.LINE), ("let b " + self.BEHIND, "ok"), ("show b", self.BEHIND), ("names", "a b"),
            ("turn b a", "ok"), ("show b", "p 5; arrows 1>0; dims 1 1; maps 0"), ("show a", self.ENDS), ("turn a a", "ok"),
            ("show a", "p 5; arrows 1>0; dims 1 1; maps 0"), ("sum a a b", "ok"), ("show a", "p 5; arrows 1>0; dims 2 2; maps 0 0 / 0 0"),
            ("sum a a a", "ok"), ("drop a", "ok"), ("names", "b"), ("drop b", "ok"), ("names", "none"),
        )
        self.assert_refused(desk, "show a", "drop a", "turn b a", "sum b a a")
        self.assert_answers(desk, ("names", "none"))

    def test_names_of_all_sorts(self):
        desk = Desk()
        for name in ("zz", "a", "abcdefgh", "let", "sum", "names", "none", "show", "ab", "z", "p", "ok"):
            self.assert_answers(desk, ("let " + name + " " + self.LINE, "ok"), ("show " + name, self.LINE))
        self.assert_answers(
            desk, ("names", "a ab abcdefgh let names none ok p show sum z zz"), ("sum sum sum sum", "ok"), ("alike let names", "yes"),
            ("turn turn sum", "ok"), ("drop names", "ok"), ("names", "a ab abcdefgh let none ok p show sum turn z zz"),
        )

    def test_the_sum(self):
        desk = self.desk()
        self.assert_answers(
            desk, ("sum x line ends", "ok"), ("show x", "p 5; arrows 0>1; dims 2 2; maps 1 0 / 0 0"),
            ("sum y behind ahead", "ok"), ("show y", self.ENDS), ("sum line line none", "ok"), ("show line", self.LINE),
            ("sum x x one", "unlike"), ("show x", "p 5; arrows 0>1; dims 2 2; maps 1 0 / 0 0"), ("sum new one line", "unlike"),
        )
        self.assert_refused(desk, "show new", "drop new")

    def test_sums_up_to_125(self):
        desk = Desk()
        self.assert_answers(
            desk, ("let a p 3; arrows none; dims 62 1; maps none", "ok"), ("let b p 3; arrows none; dims 0 62; maps none", "ok"),
            ("sum c a b", "ok"), ("show c", "p 3; arrows none; dims 62 63; maps none"), ("sum d a a", "too large"),
            ("sum a a c", "too large"), ("show a", "p 3; arrows none; dims 62 1; maps none"), ("names", "a b c"),
            ("let e p 5; arrows none; dims 125 0; maps none", "ok"), ("sum c c e", "unlike"), ("sum x e c", "unlike"),
            ("let f p 3; arrows none; dims 125; maps none", "ok"), ("sum x f c", "unlike"), ("sum x f f", "too large"), ("names", "a b c e f"),
        )

    def test_numbers_and_tells(self):
        desk = self.desk()
        self.assert_answers(
            desk, ("number line line", "1"), ("number line ahead", "1"), ("number ahead line", "0"), ("number behind line", "1"),
            ("number none line", "0"), ("number ends ends", "2"), ("tell line line ends", "no"), ("tell behind line ends", "no"),
            ("tell ahead line ends", "yes"), ("tell none line ends", "no"), ("tell line line line", "no"), ("alike line ends", "no"),
            ("alike line line", "yes"), ("fellows line", "4"), ("fellows ends", "1"), ("fellows none", "1"),
        )

    def test_parts(self):
        desk = self.desk()
        self.assert_answers(desk, ("sum twice line line", "ok"), ("sum both line behind", "ok"))
        self.assert_answers(
            desk, ("common line ends", "0 0"), ("common twice both", "1 1"), ("common both ends", "0 1"), ("common none line", "0 0"),
            ("part line twice", "yes"), ("part twice line", "no"), ("part behind line", "no"), ("part none line", "yes"),
            ("made twice line", "yes"), ("made ends line", "no"), ("covered ahead line", "yes"), ("covered behind line", "no"),
            ("covered line ends", "no"), ("seen behind line", "yes"), ("seen ahead line", "no"), ("seen line ends", "no"),
            ("covered none line", "yes"), ("seen line none", "no"), ("made ends both", "no"), ("made behind both", "yes"),
        )

    def test_unlike_goes_ahead_of_too_large(self):
        desk = Desk()
        self.assert_answers(
            desk, ("let a p 3; arrows 0>1; dims 1 1; maps 1", "ok"), ("let b p 3; arrows 1>0; dims 1 1; maps 1", "ok"),
            ("let x p 3; arrows none; dims 3 3; maps none", "ok"), ("let y p 5; arrows none; dims 3 3; maps none", "ok"),
            ("let z p 3; arrows none; dims 6; maps none", "ok"), ("let s p 3; arrows none; dims 1 1; maps none", "ok"),
        )
        for word in PAIRS:
            for pair in ("a b", "a x", "x y", "y x", "x z", "z y", "z a"):
                self.assert_answers(desk, (word + " " + pair, "unlike"))
            self.assert_answers(desk, (word + " x x", "too large"))
            self.assert_answers(desk, (word + " x s", "too large" if word != "number" else "6"))
            self.assert_answers(desk, (word + " s x", "too large" if word != "number" else "6"))
        self.assert_answers(
            desk, ("tell a a b", "unlike"), ("tell b a a", "unlike"), ("tell x x y", "unlike"), ("tell y x x", "unlike"), ("tell x y x", "unlike"),
            ("tell x x x", "too large"), ("tell x s x", "too large"), ("tell x x s", "too large"), ("tell s x x", "no"), ("tell s x s", "yes"),
            ("tell x s s", "no"), ("tell x x b", "unlike"), ("tell z x x", "unlike"), ("fellows x", "too large"), ("fellows s", "1"),
        )

    def test_fellows(self):
        desk = Desk()
        self.assert_answers(
            desk, ("let a p 5; arrows 0>1 0>1; dims 2 1; maps 1 0 | 0 4", "ok"), ("fellows a", "480"),
            ("let a p 2; arrows none; dims 3 1 1; maps none", "ok"), ("fellows a", "1"),
            ("let a p 2; arrows none; dims 3 2; maps none", "ok"), ("fellows a", "too large"),
            ("let a p 2; arrows 0>0; dims 5; maps 0 1 0 0 0 / 0 0 1 0 0 / 0 0 0 1 0 / 0 0 0 0 1 / 0 0 0 0 0", "ok"),
            ("fellows a", str(plain.many_changes(2, (5,)) // 16)), ("sum a a a", "ok"), ("fellows a", "too large"),
        )

    def test_large_modules(self):
        rng = support.source(125)
        desk, other = Desk(), plain.PlainDesk()
        small = format_module(support.random_module(rng, 2, cases.LOOP * 2, (3,)))
        large = format_module(support.random_module(rng, 2, cases.LOOP * 2, (125,)))
        for line in (
            "let a " + small, "let b " + large, "show b", "number a b", "number b a", "number b b", "tell a a b", "tell a b b", "tell b a a",
            "tell b b a", "alike a b", "sum c a b", "sum c a a", "turn b b", "show b", "number a b", "names",
        ):
            told = self.answered(desk, line)
            self.assertIsNotNone(told)
            self.assertEqual(told, other.do(line))


class BadLineTest(DeskTest):
    TEXT = "p 5; arrows 0>1 0>1; dims 2 1; maps 1 0 | 0 4"

    def desk(self):
        desk = Desk()
        self.assert_answers(desk, ("let a " + self.TEXT, "ok"), ("let b p 5; arrows none; dims 1; maps none", "ok"))
        return desk

    def assert_unchanged(self, desk):
        self.assert_answers(desk, ("names", "a b"), ("show a", self.TEXT), ("show b", "p 5; arrows none; dims 1; maps none"))

    def test_lines_that_are_none(self):
        desk = self.desk()
        self.assert_refused(
            desk, "", " ", "  ", "\n", "a", "none", "ok", "hello", "LET a " + self.TEXT, "Show a", "NAMES", "names a", "names ", " names",
            "names\n", "names names", "show", "show ", "show  a", " show a", "show a ", "show a b", "show a\n", "show\ta", "drop", "drop a b",
            "let", "let ", "let a", "let a ", "let c", "let " + self.TEXT, "let a  " + self.TEXT, "let  a " + self.TEXT, " let a " + self.TEXT,
            "let a " + self.TEXT + " ", "let a " + self.TEXT + "\n", "let a b", "let a sum a a", "let a turn b", "let a show b", "let a = b",
            "let c none", "sum", "sum a", "sum a a", "sum a a a a", "sum c a  a", "turn", "turn a", "turn a a a", "turn c", "number", "number a",
            "number a a a", "alike a", "alike", "alike a a a", "tell", "tell a", "tell a a", "tell a a a a", "common a", "common a a a", "part a",
            "part a a a", "made a", "made a a a", "covered a", "covered a a a", "seen a", "seen a a a", "fellows", "fellows a a", "units a", "strangers a a",
            "passages a a", "led a", "add a a a", "turned a a", "shows a", "sho a", "show\u00a0a", "keep a b", "forget a", "check_module a", "do names",
        )
        self.assert_unchanged(desk)

    def test_names_that_are_none(self):
        desk = self.desk()
        for name in BAD_NAMES:
            self.assert_refused(desk, "let " + name + " " + self.TEXT, "sum " + name + " a a", "turn " + name + " a", "drop " + name, "show " + name)
            self.assert_refused(desk, "sum " + name + " a b", "fellows " + name, "sum c " + name + " a", "sum c a " + name, "turn c " + name)
            for word in PAIRS:
                self.assert_refused(desk, word + " " + name + " a", word + " a " + name, word + " " + name + " " + name)
            self.assert_refused(desk, "tell " + name + " a a", "tell a " + name + " a", "tell a a " + name)
        self.assert_unchanged(desk)

    def test_names_under_which_nothing_is_kept(self):
        desk = self.desk()
        self.assert_refused(desk, "show c", "drop c", "fellows c", "sum c c a", "sum c a c", "sum a c c", "turn c c", "turn a c")
        self.assert_refused(desk, "sum a b c", "tell a b c", "tell c a b", "tell a c b", "number a c", "number c b")
        for word in PAIRS:
            self.assert_refused(desk, word + " c a", word + " a c", word + " c c")
        self.assert_unchanged(desk)
        self.assert_answers(desk, ("drop b", "ok"))
        self.assert_refused(desk, "show b", "drop b", "sum a a b", "turn a b", "alike a b", "tell a a b", "fellows b")
        self.assert_answers(desk, ("names", "a"), ("show a", self.TEXT))

    def test_texts_that_are_none(self):
        desk = self.desk()
        for wrong in (
            "p 4; arrows none; dims 1; maps none", "p 5; arrows none; dims 01; maps none", "p 5; arrows none; dims 1; maps none;",
            "P 5; arrows none; dims 1; maps none", "p 5; dims 1; arrows none; maps none", "p 5; arrows none;  dims 1; maps none",
            "p 5; arrows 0>1; dims 1; maps 1", "p 5; arrows none; dims 126; maps none", "", " ", "a",
        ):
            self.assert_refused(desk, "let a " + wrong, "let c " + wrong, "let b " + wrong)
        for at in range(len(self.TEXT)):
            for wrong in (self.TEXT[:at] + self.TEXT[at + 1:], self.TEXT[:at] + " " + self.TEXT[at:], self.TEXT[:at]):
                if plain.plain_module(wrong) is None:
                    self.assert_refused(desk, "let a " + wrong, "let c " + wrong)
        self.assert_unchanged(desk)

    def test_what_is_no_text(self):
        desk = self.desk()
        self.assert_refused(desk, None, 0, True, b"names", ["names"], ("names",))
        self.assert_unchanged(desk)


class PromisesTest(DeskTest):
    """Point 16, as a desk answers it."""

    def test_sums_and_turned_modules(self):
        rng = support.source(126)
        words = []
        for p in (2, 3, 7):
            for arrows, dims, more in ((cases.LINE, (1, 1), (1, 0)), (cases.LOOP, (2,), (1,)), (cases.ROUND, (1, 1), (0, 1))):
                for _ in range(6):
                    desk = Desk()
                    module = support.random_module(rng, p, arrows, dims)
                    other = rng.choice((cases.moved(rng, module), support.random_module(rng, p, arrows, dims)))
                    third = support.random_module(rng, p, arrows, more)
                    for name, told in (("m", module), ("n", other), ("l", third)):
                        desk.do("let " + name + " " + format_module(told))
                    for line in ("sum ml m l", "sum ln l n", "sum mm m m", "sum nn n n", "turn tm m", "turn tn n"):
                        self.assertEqual(desk.do(line), "ok")
                    told = desk.do("alike m n")
                    words.append(told)
                    for line in ("alike n m", "alike ml ln", "alike mm nn", "alike tm tn"):
                        self.assertEqual(desk.do(line), told)
                    self.assert_answers(desk, ("part m ml", "yes"), ("made m mm", "yes"), ("covered n ln", "yes"), ("seen n ln", "yes"))
        self.assertGreater(min(words.count("yes"), words.count("no")), 5)

    def test_parts_are_made_of_and_covered_and_seen(self):
        rng = support.source(127)
        seen = []
        for module, other in cases.pairs(128, (2, 5)):
            desk = Desk()
            desk.do("let m " + format_module(module))
            desk.do("let n " + format_module(other))
            told = [desk.do(word + " m n") for word in ("part", "made", "covered", "seen")]
            seen.append(tuple(told))
            # Each yes brings the next one with it; being made of brings both of the last two.
            self.assertFalse(told[0] == "yes" and told[1] == "no")
            self.assertFalse(told[1] == "yes" and "no" in told[2:])
            if desk.do("alike m n") == "yes":
                self.assertEqual(told, ["yes"] * 4)
                self.assertEqual(desk.do("tell " + rng.choice("mn") + " m n"), "no")
        self.assertGreater(len(set(seen)), 4)

    def test_texts_are_read_back(self):
        for module in support.modules(129):
            desk = Desk()
            desk.do("let x " + format_module(module))
            self.assertEqual(parse_module(desk.do("show x")), module)
            desk.do("let y " + desk.do("show x"))
            self.assertEqual(desk.do("show y"), desk.do("show x"))
            desk.do("turn x x")
            desk.do("turn x x")
            self.assertEqual(desk.do("show x"), desk.do("show y"))


if __name__ == "__main__":
    unittest.main()
