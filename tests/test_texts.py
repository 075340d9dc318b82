"""Point 14: the textual form of modules; and point 16 of it."""

import unittest
from itertools import product

from severalmaps.errors import BadModule, BadText
from severalmaps.modules import add, check_module, turned
from severalmaps.texts import format_module, parse_module
from tests import cases, plain, reckoning, support

EXAMPLE = (5, ((0, 1), (0, 1)), (2, 1), (((1, 0),), ((0, 4),)))
EXAMPLE_TEXT = "p 5; arrows 0>1 0>1; dims 2 1; maps 1 0 | 0 4"

# Modules and their texts, as the words of point 14 tell them.
KNOWN = (
    (EXAMPLE, EXAMPLE_TEXT),
    ((2, (), (0,), ()), "p 2; arrows none; dims 0; maps none"),
    ((13, (), (125,), ()), "p 13; arrows none; dims 125; maps none"),
    ((11, (), (0, 3, 0, 10), ()), "p 11; arrows none; dims 0 3 0 10; maps none"),
    ((13, ((0, 0),), (2,), (((12, 10), (0, 11)),)), "p 13; arrows 0>0; dims 2; maps 12 10 / 0 11"),
    ((3, ((0, 0),), (0,), ((),)), "p 3; arrows 0>0; dims 0; maps -"),
    ((3, ((0, 1),), (0, 1), (((),),)), "p 3; arrows 0>1; dims 0 1; maps -"),
    ((3, ((0, 1),), (0, 3), (((), (), ()),)), "p 3; arrows 0>1; dims 0 3; maps - / - / -"),
    ((3, ((0, 1),), (3, 0), ((),)), "p 3; arrows 0>1; dims 3 0; maps -"),
    ((3, ((1, 0), (3, 3)), (0, 2, 0, 1), ((), ((2,),))), "p 3; arrows 1>0 3>3; dims 0 2 0 1; maps - | 2"),
    ((2, ((0, 0),) * 5, (1,), (((1,),), ((0,),)) * 2 + (((1,),),)), "p 2; arrows 0>0 0>0 0>0 0>0 0>0; dims 1; maps 1 | 0 | 1 | 0 | 1"),
)

# Texts that are none of a module, by what is wrong with them.
WRONG = (
    "", " ", "none", "p", "p 5", "p 5; arrows none", "p 5; arrows none; dims 1", "p 5; dims 1; maps none",
    # Other parts, other orders, other words, other cases, other signs between them.
    "arrows none; p 5; dims 1; maps none", "p 5; dims 1; arrows none; maps none", "p 5; arrows none; maps none; dims 1",
    "p 5; arrows none; dims 1; maps none;", "p 5; arrows none; dims 1; maps none; ", "p 5; arrows none; dims 1; maps none; p 5",
    "; p 5; arrows none; dims 1; maps none", "P 5; arrows none; dims 1; maps none", "p 5; Arrows none; dims 1; maps none",
    "p 5; arrows None; dims 1; maps none", "p 5; arrows none; dims 1; maps NONE", "q 5; arrows none; dims 1; maps none",
    "p 5; arrow none; dims 1; maps none", "p 5; arrows none; dim 1; maps none", "p 5; arrows none; dims 1; map none",
    "p5; arrows none; dims 1; maps none", "p 5 arrows none dims 1 maps none", "p 5, arrows none, dims 1, maps none",
    "p: 5; arrows: none; dims: 1; maps: none", "p=5; arrows none; dims 1; maps none", "5; none; 1; none", "p; arrows; dims; maps",
    "p 5;arrows none;dims 1;maps none", "p 5;  arrows none; dims 1; maps none", "p 5 ; arrows none; dims 1; maps none",
    "p  5; arrows none; dims 1; maps none", "p 5; arrows  none; dims 1; maps none", "p 5; arrows none; dims  1; maps none",
    "p 5; arrows none; dims 1; maps  none", " p 5; arrows none; dims 1; maps none", "p 5; arrows none; dims 1; maps none ",
    "p 5; arrows none; dims 1; maps none\n", "\tp 5; arrows none; dims 1; maps none", "p\t5; arrows none; dims 1; maps none",
    "p 5;\narrows none; dims 1; maps none", "p 5; arrows\u00a0none; dims 1; maps none",
    # Numbers.
    "p 05; arrows none; dims 1; maps none", "p +5; arrows none; dims 1; maps none", "p -5; arrows none; dims 1; maps none",
    "p 5.0; arrows none; dims 1; maps none", "p 0x5; arrows none; dims 1; maps none", "p five; arrows none; dims 1; maps none",
    "p 5_; arrows none; dims 1; maps none", "p 1_3; arrows none; dims 1; maps none", "p \u0665; arrows none; dims 1; maps none",
    "p \uff15; arrows none; dims 1; maps none", "p \u00b2; arrows none; dims 1; maps none", "p 5; arrows none; dims \u0661; maps none",
    "p ; arrows none; dims 1; maps none", "p none; arrows none; dims 1; maps none", "p 5 5; arrows none; dims 1; maps none",
    "p 0; arrows none; dims 1; maps none", "p 1; arrows none; dims 1; maps none", "p 4; arrows none; dims 1; maps none",
    "p 6; arrows none; dims 1; maps none", "p 17; arrows none; dims 1; maps none", "p 9; arrows none; dims 1; maps none",
    "p 5; arrows none; dims 01; maps none", "p 5; arrows none; dims 00; maps none", "p 5; arrows none; dims -1; maps none",
    "p 5; arrows none; dims +1; maps none", "p 5; arrows none; dims -0; maps none", "p 5; arrows none; dims ; maps none",
    "p 5; arrows none; dims none; maps none", "p 5; arrows none; dims -; maps none", "p 5; arrows none; dims 1,1; maps none",
    "p 5; arrows none; dims 1  1; maps none", "p 5; arrows none; dims 1 ; maps none", "p 5; arrows none; dims 126; maps none",
    "p 5; arrows none; dims 125 1; maps none", "p 5; arrows none; dims 1000; maps none", "p 5; arrows none; dims 1 1 1 1 1; maps none",
    "p 5; arrows none; dims " + "9" * 5000 + "; maps none", "p " + "0" * 5000 + "5; arrows none; dims 1; maps none",
    # Arrows.
    "p 5; arrows ; dims 1; maps none", "p 5; arrows -; dims 1; maps none", "p 5; arrows none none; dims 1; maps none",
    "p 5; arrows; dims 1; maps none", "p 5; arrows 0>0; dims 1; maps none", "p 5; arrows none; dims 1; maps 1",
    "p 5; arrows none; dims 0; maps -", "p 5; arrows none; dims 1; maps ", "p 5; arrows none; dims 1; maps",
    "p 5; arrows 0>1; dims 1; maps 1", "p 5; arrows 1>0; dims 1; maps 1", "p 5; arrows 0>0 0>0; dims 1; maps 1",
    "p 5; arrows 0>0; dims 1; maps 1 | 1", "p 5; arrows 0>0>0; dims 1; maps 1", "p 5; arrows 0; dims 1; maps 1",
    "p 5; arrows 0->0; dims 1; maps 1", "p 5; arrows 0 > 0; dims 1; maps 1", "p 5; arrows 0>; dims 1; maps 1",
    "p 5; arrows >0; dims 1; maps 1", "p 5; arrows 00>0; dims 1; maps 1", "p 5; arrows 0>00; dims 1; maps 1", "p 5; arrows 0<0; dims 1; maps 1",
    "p 5; arrows 0>-0; dims 1; maps 1", "p 5; arrows -1>0; dims 1; maps 1", "p 5; arrows 0>0,0>0; dims 1; maps 1 | 1",
    "p 5; arrows 0>999; dims 1; maps 1", "p 5; arrows 0>0  0>0; dims 1; maps 1 | 1", "p 5; arrows 0>0 ; dims 1; maps 1",
    "p 5; arrows 0>0 none; dims 1; maps 1", "p 5; arrows 0>0 0>0 0>0 0>0 0>0 0>0; dims 0; maps - | - | - | - | - | -",
    "p 5; arrows " + "0>0 " * 5000 + "0>0; dims 1; maps 1",
    # Matrices.
    "p 5; arrows 0>0; dims 1; maps 5", "p 5; arrows 0>0; dims 1; maps -1", "p 5; arrows 0>0; dims 1; maps 01", "p 5; arrows 0>0; dims 1; maps 00",
    "p 5; arrows 0>0; dims 1; maps 1 1", "p 5; arrows 0>0; dims 1; maps 1 / 1", "p 5; arrows 0>0; dims 1; maps -",
    "p 5; arrows 0>0; dims 1; maps ", "p 5; arrows 0>0; dims 1; maps 1 ", "p 5; arrows 0>0; dims 1; maps 1 |",
    "p 5; arrows 0>0; dims 1; maps | 1", "p 5; arrows 0>0; dims 1; maps 1 /", "p 5; arrows 0>0; dims 1; maps / 1",
    "p 5; arrows 0>0; dims 1; maps (1)", "p 5; arrows 0>0 0>0; dims 1; maps 1|1", "p 5; arrows 0>0 0>0; dims 1; maps 1 || 1",
    "p 5; arrows 0>0 0>0; dims 1; maps 1 |  1", "p 5; arrows 0>0 0>0; dims 1; maps 1 | none", "p 5; arrows 0>0 0>0; dims 1; maps 1 / 1",
    "p 5; arrows 0>0; dims 2; maps 1 0 0 1", "p 5; arrows 0>0; dims 2; maps 1 0 /  0 1", "p 5; arrows 0>0; dims 2; maps 1 0/0 1",
    "p 5; arrows 0>0; dims 2; maps 1 0 / 0", "p 5; arrows 0>0; dims 2; maps 1 0 | 0 1", "p 5; arrows 0>0; dims 2; maps 1 0 / 0 1 / 0 0",
    "p 5; arrows 0>0; dims 2; maps 1  0 / 0 1", "p 5; arrows 0>0; dims 2; maps 1 0 / -", "p 5; arrows 0>0; dims 2; maps 1 0 // 0 1",
    "p 5; arrows 0>0; dims 0; maps ", "p 5; arrows 0>0; dims 0; maps - / -", "p 5; arrows 0>0; dims 0; maps 0", "p 5; arrows 0>0; dims 0; maps none",
    "p 5; arrows 0>1; dims 0 2; maps -", "p 5; arrows 0>1; dims 0 2; maps - / - / -", "p 5; arrows 0>1; dims 0 2; maps - -",
    "p 5; arrows 0>1; dims 0 2; maps 0 / 0", "p 5; arrows 0>1; dims 0 2; maps  / ", "p 5; arrows 0>1; dims 2 0; maps - -",
    "p 5; arrows 0>1; dims 2 0; maps - / -", "p 5; arrows 0>1; dims 2 0; maps ", "p 5; arrows 0>1; dims 2 0; maps --",
    "p 5; arrows 0>0; dims 1; maps " + "1" * 5000, "p 2; arrows 0>0; dims 1; maps 2",
)

# What a text is spoiled with, one sign at a time.
SIGNS = (" ", "0", "1", "2", "4", "5", "7", "-", "+", ">", "|", "/", ";", ",", "p", "n", "a", "A", "_", ".", "\n", "\t", "\u0661", "\u00a0", "\uff11")


def drawn_modules(seed):
    """Modules of all shapes over all primes, also with rows and columns of the number 0."""
    rng = support.source(seed)
    told = support.modules(seed)
    for p in support.PRIMES:
        for _ in range(60):
            spaces = rng.randrange(1, 5)
            dims = tuple(rng.choice((0, 0, 1, 1, 2, 3, 11)) for _ in range(spaces))
            arrows = tuple((rng.randrange(spaces), rng.randrange(spaces)) for _ in range(rng.randrange(6)))
            told.append(support.random_module(rng, p, arrows, dims))
    return told


class FormatTest(unittest.TestCase):
    def test_known_texts(self):
        for module, text in KNOWN:
            told = format_module(module)
            self.assertIs(type(told), str)
            self.assertEqual(told, text)

    def test_drawn_modules(self):
        for module in drawn_modules(111):
            self.assertEqual(format_module(module), plain.plain_text(module))

    def test_what_is_no_module(self):
        for wrong in support.THINGS + (EXAMPLE_TEXT, list(EXAMPLE), EXAMPLE[:3], support.zero_module(2, (), (126,))):
            with self.assertRaises(BadModule):
                format_module(wrong)
        for wrong in support.spoiled(EXAMPLE, 5):
            if not reckoning.is_module(wrong):
                with self.assertRaises(BadModule):
                    format_module(wrong)


class ParseTest(unittest.TestCase):
    def assert_bad(self, text):
        with self.assertRaises(BadText, msg=repr(text)[:300]) as caught:
            parse_module(text)
        self.assertIs(type(caught.exception), BadText)

    def assert_judged(self, text):
        """Reads a text, and tells whether it is a textual form, which the plain reading has to tell, too."""
        wanted = plain.plain_module(text)
        if wanted is None:
            self.assert_bad(text)
            return False
        self.assertEqual(parse_module(text), wanted, text)
        return True

    def test_known_texts(self):
        for module, text in KNOWN:
            told = parse_module(text)
            self.assertEqual(told, module)
            self.assertTrue(support.is_plain(told))
            self.assertTrue(self.assert_judged(text))

    def test_texts_are_read_back(self):
        for module in drawn_modules(112):
            text = format_module(module)
            told = parse_module(text)
            self.assertIsNone(check_module(told))
            self.assertTrue(support.is_plain(told))
            self.assertEqual(told, module)
            self.assertEqual(format_module(told), text)

    def test_wrong_texts(self):
        self.assertEqual(len(set(WRONG)), len(WRONG))
        for text in WRONG:
            self.assert_bad(text)
            self.assertIsNone(plain.plain_module(text))

    def test_one_sign_spoiled(self):
        right, wrong = 0, 0
        for module in [module for module, _ in KNOWN] + support.modules(113, (2, 13), support.SHAPES[:9]):
            text = format_module(module)
            for at in range(len(text) + 1):
                others = [text[:at] + sign + text[at:] for sign in SIGNS] + [text[:at] + sign + text[at + 1:] for sign in SIGNS]
                for other in others + [text[:at] + text[at + 1:], text[:at] + text[at:at + 1].upper() + text[at + 1:], text[:at], text[at:]]:
                    if self.assert_judged(other):
                        right += 1
                    else:
                        wrong += 1
        self.assertGreater(right, 100)
        self.assertGreater(wrong, 10000)

    def test_all_signs_in_the_place_of_a_number(self):
        places = ("p {}; arrows 0>1; dims 2 1; maps 1 1", "p 5; arrows {}>1; dims 2 1; maps 1 1", "p 5; arrows 0>1; dims {} 1; maps 1 1",
                  "p 5; arrows 0>1; dims 2 1; maps 1 {}", "p 5; arrows 0>1; dims 2 1; maps {}")
        for place in places:
            for sign in [chr(at) for at in range(0x3000)] + ["\ud800", "\U0001d7d9", "\U0001f600"]:
                self.assert_judged(place.replace("{}", sign))
                self.assert_judged(place.replace("{}", "1" + sign))

    def test_parts_and_words_exchanged(self):
        for module in [module for module, _ in KNOWN] + support.modules(114, (3, 11), support.SHAPES[:12]):
            text = format_module(module)
            for between in ("; ", " ", " | ", " / ", ">"):
                pieces = text.split(between)
                for at in range(len(pieces)):
                    self.assert_judged(between.join(pieces[:at] + pieces[at + 1:]))
                    self.assert_judged(between.join(pieces[:at + 1] + pieces[at:]))
                    self.assert_judged(between.join(pieces[at:] + pieces[:at]))
                for one, two in product(range(len(pieces)), repeat=2):
                    if one < two < one + 6:
                        self.assert_judged(between.join(
                            pieces[:one] + [pieces[two]] + pieces[one + 1:two] + [pieces[one]] + pieces[two + 1:]
                        ))
            for other in (" " + text, text + " ", text + ";", text + "\n", text.upper(), text.title(), text.replace(" ", "  "), text * 2):
                self.assert_bad(other)

    def test_all_short_texts_of_one_kind(self):
        # Every text of these parts, of which few are textual forms.
        right = 0
        for arrows, dims, table in product(
            ("none", "0>1", "1>0", "0>0", "1>1", "0>2", ""), ("0 0", "1 0", "0 1", "1 1", "2 0", "0 2", "2 1", "1", ""),
            ("none", "-", "- / -", "1", "1 / 1", "1 1", "1 1 / 1 1", "- -", "2", ""),
        ):
            right += self.assert_judged("p 2; arrows " + arrows + "; dims " + dims + "; maps " + table)
        self.assertGreater(right, 20)

    def test_what_is_no_text(self):
        for wrong in (None, 5, True, [], (), {}, EXAMPLE, EXAMPLE_TEXT.encode(), [EXAMPLE_TEXT]):
            self.assert_bad(wrong)

    def test_large_modules(self):
        rng = support.source(115)
        for p in (2, 13):
            for arrows, dims in ((((0, 0),) * 5, (125,)), (((0, 1), (1, 0), (2, 3)), (60, 61, 4, 0))):
                module = support.random_module(rng, p, arrows, dims)
                text = format_module(module)
                self.assertEqual(text, plain.plain_text(module))
                self.assertEqual(parse_module(text), module)
                self.assert_bad(text[:-1] + "x")
                self.assert_bad(text + " 0")


class PromisesTest(unittest.TestCase):
    """Points 1 and 16."""

    def test_unlike_modules_have_unlike_texts(self):
        modules = list(dict.fromkeys(drawn_modules(116)))
        self.assertEqual(len({format_module(module) for module in modules}), len(modules))
        for module in modules[:60]:
            for other in support.changed(module[3], module[0]):
                self.assertNotEqual(format_module(module[:3] + (other,)), format_module(module))

    def test_what_other_functions_return_is_read_back(self):
        rng = support.source(117)
        for module in support.modules(118, (2, 7)):
            for told in (turned(module), add(module, module), cases.moved(rng, module)):
                self.assertEqual(parse_module(format_module(told)), told)

    def test_what_is_handed_in_stays(self):
        wrong = [5, [[0, 0]], [1], [[[1]]]]
        with self.assertRaises(BadModule):
            format_module(wrong)
        self.assertEqual(wrong, [5, [[0, 0]], [1], [[[1]]]])
        one, two = parse_module(EXAMPLE_TEXT), parse_module(EXAMPLE_TEXT)
        self.assertEqual(one, two)


if __name__ == "__main__":
    unittest.main()
