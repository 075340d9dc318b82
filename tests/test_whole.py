"""The whole program: its interface, and what points 1 and 16 promise of functions of all files."""

import inspect
import unittest
from copy import deepcopy

from severalmaps import alike, copies, desk, errors, kinds, modules, numbers, parts, passages, texts
from severalmaps.errors import BadModule, SeveralmapsError
from tests import cases, plain, reckoning, support

# All functions of the interface, with their arguments.
INTERFACE = {
    modules: {"check_module": "module", "add": "module other", "turned": "module", "led": "module changes"},
    passages: {
        "is_passage": "module other passage", "identity": "module", "after": "module other third first second",
        "mix": "module other passages numbers", "inverse": "module other passage", "passages": "module other",
        "number": "module other", "image": "module other passage", "kernel": "module other passage", "rest": "module other passage",
    },
    alike: {"alike": "module other", "is_likeness": "module other paper"},
    parts: {
        "is_split": "module split", "strangers": "module other", "common": "module other", "part_of": "module other",
        "is_part_paper": "module other paper",
    },
    copies: {
        "made_of": "module other", "covered_by": "module other", "seen_by": "module other", "is_made_paper": "module other paper",
        "is_covered_paper": "module other paper", "is_seen_paper": "module other paper",
    },
    kinds: {
        "list_module": "p n matrices", "pencil_module": "p rows columns matrices", "system_module": "p n matrices",
        "same_lists": "p n matrices others", "same_pencils": "p rows columns matrices others", "same_systems": "p n matrices others",
    },
    numbers: {"units": "module", "fellows": "module"},
    texts: {"format_module": "module", "parse_module": "text"},
}
ERRORS = ("SeveralmapsError", "BadModule", "BadPassage", "BadArgument", "BadText", "TooLarge", "BadLine")


def arguments_for(names, module, other):
    """Right arguments of these names, for two alike modules of one kind with one space and one arrow."""
    paper = alike.alike(module, other)
    there, back = paper[1], paper[2]
    told = {
        "module": module, "other": other, "third": module, "changes": there, "passage": there, "first": there, "second": back,
        "passages": (there, there), "numbers": (1, module[0] - 1), "paper": paper, "split": parts.common(module, other)[0],
        "p": module[0], "n": module[2][0], "rows": module[2][0], "columns": module[2][0],
        "matrices": module[3], "others": other[3], "text": texts.format_module(module),
    }
    return {name: told[name] for name in names.split(" ")}


def all_calls():
    """Calls of all functions of the interface with right arguments."""
    rng = support.source(131)
    for p in support.PRIMES:
        for n in (0, 1, 2):
            module = support.random_module(rng, p, cases.LOOP, (n,))
            other = cases.moved(rng, module)
            for file, functions in INTERFACE.items():
                for name, names in functions.items():
                    if file is not numbers or p ** passages.number(module, module) <= 4096:
                        yield getattr(file, name), arguments_for(names, module, other)


def same_but_marked(value, wrong):
    """The value, each time with one integer 0 or 1 within it as False or True, or wrong in its place."""
    if type(value) is int:
        if value in (0, 1):
            yield bool(value)
        yield wrong
    elif type(value) is tuple:
        for at, item in enumerate(value):
            for other in same_but_marked(item, wrong):
                yield value[:at] + (other,) + value[at + 1:]


class InterfaceTest(unittest.TestCase):
    def test_functions_stand_in_their_files_with_their_arguments(self):
        for file, functions in INTERFACE.items():
            for name, names in functions.items():
                function = getattr(file, name)
                self.assertTrue(inspect.isfunction(function), name)
                self.assertEqual(function.__module__, file.__name__)
                self.assertEqual(function.__name__, name)
                self.assertEqual(list(inspect.signature(function).parameters), names.split(" "), name)

    def test_classes_stand_in_their_files(self):
        for name in ERRORS:
            told = getattr(errors, name)
            self.assertEqual(told.__module__, "severalmaps.errors")
            self.assertTrue(issubclass(told, SeveralmapsError) and issubclass(told, ValueError))
        self.assertEqual(desk.Desk.__module__, "severalmaps.desk")
        self.assertIn("do", vars(desk.Desk))
        self.assertEqual(list(inspect.signature(desk.Desk).parameters), [])
        self.assertEqual(list(inspect.signature(desk.Desk.do).parameters), ["self", "line"])
        self.assertEqual(desk.Desk().do(line="names"), "none")


class PointOneTest(unittest.TestCase):
    def test_arguments_stay_and_results_are_plain(self):
        seen = set()
        for function, arguments in all_calls():
            kept = deepcopy(arguments)
            told = function(**arguments)
            self.assertEqual(arguments, kept, function)
            self.assertTrue(support.is_plain(told), (function, told))
            self.assertTrue(support.is_plain(list(arguments.values())))
            seen.add(function)
        self.assertEqual(len(seen), sum(map(len, INTERFACE.values())))

    def test_nothing_is_kept_from_call_to_call(self):
        rows = [(function, arguments, function(**arguments)) for function, arguments in all_calls()]
        for function, arguments, told in reversed(rows):
            again = function(**arguments)
            self.assertEqual(again, told, function)
            if type(told) is list:
                self.assertIsNot(again, told)
                told.append("more")
                self.assertEqual(function(**arguments), again)

    def test_true_and_false_are_no_integers(self):
        for module in (cases.point(5, 1, 0), (2, cases.LOOP, (1,), (((1,),),)), (3, ((0, 1),), (1, 1), (((0,),),))):
            for wrong in same_but_marked(module, True):
                for file, functions in INTERFACE.items():
                    for name, names in functions.items():
                        if names.startswith("module"):
                            # Modules are checked ahead of all else, which may then be anything.
                            more = [module if word in ("other", "third") else None for word in names.split(" ")[1:]]
                            with self.assertRaises(BadModule, msg=(name, wrong)):
                                getattr(file, name)(wrong, *more)

    def test_errors_are_those_of_the_package(self):
        rng = support.source(132)
        for function, arguments in all_calls():
            # One argument exchanged for another one's: it is taken, or refused by an error of the package.
            name = rng.choice(sorted(arguments))
            wrong = {**arguments, name: arguments[rng.choice(sorted(arguments))]}
            try:
                self.assertTrue(support.is_plain(function(**wrong)))
            except SeveralmapsError:
                pass


class PointSixteenTest(unittest.TestCase):
    """The promises that go by several files."""

    def test_all_files_tell_the_same_of_two_modules(self):
        rng = support.source(133)
        words = []
        for module, other in cases.pairs(134, (2, 3, 11)):
            word = alike.alike(module, other)[0]
            words.append(word)
            ours = desk.Desk()
            ours.do("let m " + texts.format_module(module))
            ours.do("let n " + texts.format_module(other))
            self.assertEqual(ours.do("alike m n"), "yes" if word == "alike" else "no")
            first, second = parts.common(module, other)
            self.assertEqual(ours.do("common m n"), texts.written_numbers(first[0][2]))
            self.assertEqual(word == "alike", sum(first[1][2]) == sum(second[1][2]) == 0)
            both = (parts.part_of(module, other)[0], parts.part_of(other, module)[0])
            self.assertEqual(word == "alike", both == ("part", "part"))
            if word == "apart":
                third = alike.alike(module, other)[1]
                ours.do("let t " + texts.format_module(third))
                self.assertEqual(ours.do("tell t m n"), "yes")
            again = texts.parse_module(texts.format_module(cases.moved(rng, other)))
            self.assertEqual(alike.alike(module, again)[0], word)
        self.assertGreater(min(words.count("alike"), words.count("apart")), 40)

    def test_lists_and_pencils_are_judged_as_their_modules(self):
        rng = support.source(135)
        for p in (2, 5):
            for n, many in ((1, 3), (2, 1), (2, 2), (3, 1)):
                module = support.random_module(rng, p, cases.LOOP * many, (n,))
                other = rng.choice((cases.moved(rng, module), support.random_module(rng, p, cases.LOOP * many, (n,))))
                told = kinds.same_lists(p, n, module[3], other[3])
                self.assertTrue(plain.right_lists(p, n, module[3], other[3], told))
                paper = alike.alike(module, other)
                self.assertEqual(told[0], paper[0])
                self.assertTrue(reckoning.right_likeness(module, other, paper))
                if p ** passages.number(module, module) <= 4096:
                    self.assertEqual(numbers.units(module) * numbers.fellows(module), plain.many_changes(p, (n,)))

    def test_lists_alike_in_a_sum_are_alike(self):
        # What stands beside equal blocks decides.
        rng = support.source(136)
        words = []
        for p in (2, 3, 7):
            for _ in range(12):
                one, two, block = (support.random_matrix(rng, p, n, n) for n in (2, 2, 2))
                sums = [tuple(row + (0, 0) for row in matrix) + tuple((0, 0) + row for row in block) for matrix in (one, two)]
                word = kinds.same_lists(p, 2, (one,), (two,))[0]
                self.assertEqual(kinds.same_lists(p, 4, (sums[0],), (sums[1],))[0], word)
                self.assertEqual(kinds.same_pencils(p, 2, 2, (support.ones((2,))[0], one), (support.ones((2,))[0], two))[0], word)
                words.append(word)
        self.assertGreater(words.count("alike"), 2)
        self.assertGreater(words.count("apart"), 2)


if __name__ == "__main__":
    unittest.main()
