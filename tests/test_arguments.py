"""The order in which arguments are checked, and what stays of them: point 1 and the interface."""

import ast
import os
import unittest
from copy import deepcopy

import severalmaps
from severalmaps import modules, passages
from severalmaps.errors import BadArgument, BadModule, BadPassage, TooLarge
from tests import support

M = (5, ((0, 1), (1, 0)), (1, 2), (((1,), (2,)), ((1, 1),)))
N = (5, ((0, 1), (1, 0)), (2, 1), (((1, 0),), ((0,), (0,))))
# Of one kind with M and N, and none of them small; two of them have no sum.
LARGE = support.zero_module(5, ((0, 1), (1, 0)), (3, 60))
WIDE = support.zero_module(5, ((0, 1), (1, 0)), (60, 3))

# Of another kind than M: another p, other arrows, another number of spaces.
UNLIKE = (
    (7, M[1], M[2], M[3]),
    (5, ((1, 0), (0, 1)), (1, 2), (((1, 1),), ((1,), (2,)))),
    (5, ((0, 1),), (1, 2), (((1,), (2,)),)),
    (5, ((0, 1), (1, 0), (0, 0)), (1, 2), M[3] + (((0,),),)),
    (5, M[1], (1, 2, 0), M[3]),
)

# Functions by the number of modules that come first, and right things behind these.
ONE = ((modules.check_module, ()), (modules.turned, ()), (modules.led, (((2,),), ((1, 1), (0, 1)))), (passages.identity, ()))
ID = support.ones(M[2])
TWO = (
    (modules.add, ()),
    (passages.passages, ()),
    (passages.number, ()),
    (passages.is_passage, (ID,)),
    (passages.mix, ((ID,), (2,))),
    (passages.inverse, (ID,)),
    (passages.image, (ID,)),
    (passages.kernel, (ID,)),
    (passages.rest, (ID,)),
)
WRONG = (None, "text", 0, True, [], {}, (), [5, (), (1,), ()], object())


def right_calls():
    """A call of each function with right arguments, as a function and a tuple."""
    told = [(function, (M,)) for function, _ in ONE if function is not modules.led]
    told.append((modules.led, (M, ONE[2][1])))
    told.extend((function, (M, M) + more) for function, more in TWO)
    told.append((passages.after, (M, M, M, ID, ID)))
    return told


class OrderTest(unittest.TestCase):
    def assert_raised(self, error, function, arguments):
        with self.assertRaises(error, msg=(function, repr(arguments)[:200])) as caught:
            function(*arguments)
        self.assertIs(type(caught.exception), error)

    def test_right_arguments(self):
        for function, arguments in right_calls():
            function(*arguments)

    def test_modules_come_first(self):
        for wrong in WRONG:
            for function, _ in ONE[:2] + ONE[3:]:
                self.assert_raised(BadModule, function, (wrong,))
            for more in (ONE[2][1], None, ((0,),)):
                self.assert_raised(BadModule, modules.led, (wrong, more))
            for function, more in TWO:
                for rest in (more, (None,) * len(more)):
                    for other in (M, LARGE, UNLIKE[0], wrong):
                        self.assert_raised(BadModule, function, (wrong, other) + rest)
                        self.assert_raised(BadModule, function, (other, wrong) + rest)
            for more in ((ID, ID), (None, None)):
                for triple in ((wrong, M, M), (M, wrong, M), (M, M, wrong)):
                    self.assert_raised(BadModule, passages.after, triple + more)
                for unlike in UNLIKE:
                    for triple in ((wrong, M, unlike), (M, unlike, wrong), (unlike, wrong, M)):
                        self.assert_raised(BadModule, passages.after, triple + more)

    def test_then_kinds(self):
        for unlike in UNLIKE:
            for function, more in TWO:
                for rest in (more, (None,) * len(more)):
                    self.assert_raised(BadArgument, function, (M, unlike) + rest)
                    self.assert_raised(BadArgument, function, (unlike, M) + rest)
            for more in ((ID, ID), (None, None), (None, ID)):
                for triple in ((unlike, M, M), (M, unlike, M), (M, M, unlike), (unlike, M, unlike)):
                    self.assert_raised(BadArgument, passages.after, triple + more)

    def test_kinds_ahead_of_sizes(self):
        unlike = support.zero_module(7, LARGE[1], LARGE[2])
        for function in (modules.add, passages.passages, passages.number):
            self.assert_raised(TooLarge, function, (LARGE, WIDE))
            self.assert_raised(BadArgument, function, (LARGE, unlike))
            self.assert_raised(BadModule, function, (LARGE, None))

    def test_then_the_arguments_in_their_order(self):
        for wrong in WRONG:
            for function in (passages.inverse, passages.image, passages.kernel, passages.rest):
                self.assert_raised(BadPassage, function, (M, M, wrong))
            self.assertIs(passages.is_passage(M, M, wrong), False)
            self.assert_raised(BadPassage, passages.after, (M, M, M, wrong, ID))
            self.assert_raised(BadPassage, passages.after, (M, M, M, ID, wrong))
            self.assert_raised(BadPassage, passages.mix, (M, M, (wrong,), (1,)))
            self.assert_raised(BadPassage, passages.mix, (M, M, (wrong,), (True,)))
            self.assert_raised(BadPassage, passages.mix, (M, M, (ID, wrong), None))
            self.assert_raised(BadPassage, passages.mix, (M, M, [ID], (7,)))
            self.assert_raised(BadArgument, passages.mix, (M, M, (ID,), wrong))
            self.assert_raised(BadArgument, passages.mix, (M, M, (ID,), (1, wrong)))
            self.assert_raised(BadArgument, modules.led, (M, wrong))

    def test_large_modules_are_ordinary(self):
        self.assertIs(passages.is_passage(LARGE, WIDE, support.zeros(LARGE, WIDE)), True)
        self.assertEqual(passages.identity(LARGE), support.ones(LARGE[2]))
        self.assertEqual(passages.kernel(LARGE, WIDE, support.zeros(LARGE, WIDE))[0], LARGE)
        self.assertEqual(passages.rest(LARGE, WIDE, support.zeros(LARGE, WIDE))[0], WIDE)
        self.assertEqual(passages.image(LARGE, WIDE, support.zeros(LARGE, WIDE))[0][2], (0, 0))
        self.assertIsNone(passages.inverse(LARGE, WIDE, support.zeros(LARGE, WIDE)))


class NothingChangesTest(unittest.TestCase):
    def test_right_arguments_stay(self):
        for function, arguments in right_calls():
            kept = deepcopy(arguments)
            function(*arguments)
            self.assertEqual(arguments, kept)

    def test_wrong_arguments_stay(self):
        lists = ([[1, 0], [0, 1]], [[1]])
        wrong = (5, [[0, 1], [1, 0]], [1, 2], [[[1], [2]], [[1, 1]]])
        kept = deepcopy((lists, wrong))
        for told in (lists, list(lists), {0: lists[0]}, [lists]):
            self.assertIs(passages.is_passage(M, M, told), False)
            for call in (
                lambda: modules.led(M, told), lambda: passages.inverse(M, M, told),
                lambda: passages.mix(M, M, told, [1]), lambda: passages.mix(M, M, (), told),
                lambda: passages.image(M, M, told), lambda: modules.add(M, told), lambda: modules.add(wrong, M),
                lambda: modules.check_module(wrong), lambda: modules.check_module(list(wrong)),
            ):
                with self.assertRaises((BadModule, BadArgument, BadPassage)):
                    call()
        self.assertEqual((lists, wrong), kept)

    def test_a_returned_list_is_a_new_one(self):
        one, two = passages.passages(M, N), passages.passages(M, N)
        self.assertEqual(one, two)
        self.assertIsNot(one, two)
        one.append("more")
        self.assertEqual(passages.passages(M, N), two)
        nothing = (5, (), (0,), ())
        empty = passages.passages(nothing, nothing)
        empty.append("more")
        self.assertEqual(passages.passages(nothing, nothing), [])

    def test_what_is_returned_is_plain(self):
        for function, arguments in right_calls():
            self.assertTrue(support.is_plain(function(*arguments)), function)
        for module, other, passage in support.random_passages(23):
            told = [modules.add(module, other), modules.turned(module), passages.passages(module, other)]
            told.extend(function(module, other, passage) for function in (
                passages.image, passages.kernel, passages.rest, passages.inverse, passages.is_passage,
            ))
            self.assertTrue(support.is_plain(told))


class SourceTest(unittest.TestCase):
    def test_nothing_from_outside(self):
        folder = os.path.dirname(severalmaps.__file__)
        for name in sorted(os.listdir(folder)):
            if not name.endswith(".py"):
                continue
            with open(os.path.join(folder, name), encoding="utf-8") as file:
                tree = ast.parse(file.read())
            for node in ast.walk(tree):
                self.assertNotIsInstance(node, ast.Import, name)
                if isinstance(node, ast.ImportFrom):
                    self.assertTrue(node.module.startswith("severalmaps."), (name, node.module))
                if isinstance(node, ast.Name):
                    self.assertNotIn(node.id, ("open", "input", "eval", "exec", "hash", "id"), name)

    def test_each_name_stands_in_its_file(self):
        listed = {
            modules: ("check_module", "add", "turned", "led"),
            passages: ("is_passage", "identity", "after", "mix", "inverse", "passages", "number",
                       "image", "kernel", "rest"),
        }
        for file, names in listed.items():
            for name in names:
                self.assertEqual(getattr(file, name).__module__, file.__name__)

    def test_arguments_by_their_names(self):
        self.assertEqual(passages.after(module=M, other=M, third=M, first=ID, second=ID), ID)
        self.assertEqual(passages.mix(module=M, other=M, passages=(ID,), numbers=(1,)), ID)
        for function in (passages.inverse, passages.image, passages.kernel, passages.rest, passages.is_passage):
            function(module=M, other=M, passage=ID)
        for function in (modules.add, passages.passages, passages.number):
            function(module=M, other=M)
        for function in (modules.check_module, modules.turned, passages.identity):
            function(module=M)
        self.assertEqual(modules.led(module=M, changes=ID), M)


if __name__ == "__main__":
    unittest.main()
