"""Papers and splits with one thing spoiled, wrong arguments, their order, and what stays of them."""

import unittest
from copy import deepcopy

from severalmaps import alike, copies, parts
from severalmaps.errors import BadArgument, BadModule, TooLarge
from severalmaps.modules import add
from tests import cases, reckoning, support

# What tells a paper, what judges it, and the reckoning by the document's words.
TELLERS = (
    (alike.alike, alike.is_likeness, reckoning.right_likeness),
    (parts.part_of, parts.is_part_paper, reckoning.right_part),
    (copies.made_of, copies.is_made_paper, reckoning.right_made),
    (copies.covered_by, copies.is_covered_paper, reckoning.right_covered),
    (copies.seen_by, copies.is_seen_paper, reckoning.right_seen),
)
JUDGES = [row[1] for row in TELLERS]
PAIRS = [row[0] for row in TELLERS] + [parts.strangers, parts.common]

M = cases.point(5, 1, 2)
N = add(cases.point(5, 1, 2), cases.simple(5, cases.LINE, 2, 0))
# Of one kind with M and N: of size 6, of size 125, and of a size above the limit.
SIX = cases.total(M, N, cases.simple(5, cases.LINE, 2, 1))
LARGE = support.zero_module(5, cases.LINE, (65, 60))
TOO_WIDE = support.zero_module(5, cases.LINE, (66, 60))
UNLIKE = (
    (7,) + M[1:],
    (5, ((0, 1), (1, 0)), (1, 1), M[3]),
    (5, ((0, 1),), (1, 1), M[3][:1]),
    (5, cases.LINE, (1, 1, 0), M[3]),
)
WRONG = (None, "text", 0, True, [], {}, (), list(M), M[:3], M + (0,), TOO_WIDE, object())


def small_pairs(p):
    """Pairs of which each function tells papers of both forms."""
    a, b = cases.single(p, 0), cases.single(p, 1)
    line = cases.chain(p, (0, 1))
    point = cases.point(p, 1, 1)
    return [
        (a, a), (a, b), (add(a, b), add(b, a)), (add(a, b), add(b, b)), (cases.companion(p, (0, 0)), add(a, a)),
        (line, add(cases.chain(p, (0,)), cases.chain(p, (1,)))), (cases.nothing(a), a), (point, cases.simple(p, cases.LINE, 2, 0)),
        ((p, (), (1, 0), ()), (p, (), (1, 1), ())),
    ]


def identity_papers(module):
    """A paper of each first form for a module and itself, in the order of the judges."""
    unit = support.ones(module[2])
    return [("alike", unit, unit), ("part", unit, unit), ("made", ((unit, unit),)), ("covered", (unit,)), ("seen", (unit,))]


class Word(str):
    """A text of a class of its own."""


class Same:
    """What says that it is equal to everything."""

    def __eq__(self, other):
        return True


class SpoiledTest(unittest.TestCase):
    def assert_judged(self, judge, reckon, module, other, papers):
        """Judges papers, and returns how many are right."""
        right = 0
        for paper in papers:
            told = judge(module, other, paper)
            self.assertIs(told, reckon(module, other, paper), (module, other, paper))
            right += told
        return right

    def test_one_thing_spoiled(self):
        for tell, judge, reckon in TELLERS:
            words = []
            for p in (2, 5):
                for one, two in small_pairs(p):
                    for module, other in ((one, two), (two, one)):
                        paper = tell(module, other)
                        words.append(paper[0])
                        wrong = list(support.spoiled(paper, p))
                        self.assertLess(self.assert_judged(judge, reckon, module, other, wrong), 1 + len(wrong) // 10)
                        wrong = list(support.changed(paper, p)) + list(support.exchanged(paper))
                        self.assert_judged(judge, reckon, module, other, wrong)
            self.assertEqual(len(set(words)), 2)

    def test_papers_of_other_modules(self):
        for tell, judge, reckon in TELLERS:
            for p in (2, 3):
                told = small_pairs(p)
                papers = [tell(*pair) for pair in told] + [tell(two, one) for one, two in told]
                for one, two in told:
                    self.assert_judged(judge, reckon, one, two, papers)
                    self.assert_judged(judge, reckon, two, one, papers)

    def test_papers_of_other_functions(self):
        for one, two in small_pairs(3) + small_pairs(11):
            for module, other in ((one, two), (two, one)):
                papers = [row[0](module, other) for row in TELLERS] + [parts.common(module, other)]
                for _, judge, reckon in TELLERS:
                    self.assert_judged(judge, reckon, module, other, papers)

    def test_no_papers_at_all(self):
        words = support.WORDS
        things = list(support.THINGS) + list(words) + [(word,) for word in words]
        things.extend((word, thing) for word in words for thing in support.THINGS)
        things.extend((word, thing, thing) for word in words for thing in support.THINGS)
        things.append(((), ("alike",), ("part", "not")))
        for judge in JUDGES:
            for thing in things:
                self.assertIs(judge(M, N, thing), False)
        for thing in things:
            self.assertIs(parts.is_split(M, thing), False)

    def test_a_word_alone_does_not_do(self):
        none = cases.nothing(M)
        for judge, right in zip(JUDGES, identity_papers(none)):
            self.assertIs(judge(none, none, right), True)
            for word in support.WORDS:
                self.assertIs(judge(none, none, (word,) + right[1:]), word == right[0])
            self.assertIs(judge(none, none, right + ((),)), False)
            self.assertIs(judge(none, none, right[:-1]), False)
            self.assertIs(judge(none, none, list(right)), False)
            for wrong in (right[0].encode(), Word(right[0]), Same()):
                self.assertIs(judge(none, none, (wrong,) + right[1:]), False)


class OrderTest(unittest.TestCase):
    def assert_raised(self, error, function, *arguments):
        with self.assertRaises(error, msg=(function, repr(arguments)[:200])) as caught:
            function(*arguments)
        self.assertIs(type(caught.exception), error)

    def calls(self, one, two):
        """All calls for two modules, with papers of all sorts."""
        for function in PAIRS:
            yield function, one, two
        papers = (None, "alike", (), ("alike", ((), ()), ((), ())), ("apart", M), ("apart", None), ("made", ()), ("not", 0, (1,)), ("covered", ()), ("seen", ()), 0)
        for function in JUDGES:
            for paper in papers:
                yield function, one, two, paper

    def test_modules_come_first(self):
        for wrong in WRONG:
            for other in (M, SIX, LARGE, UNLIKE[0], wrong):
                for call in list(self.calls(wrong, other)) + list(self.calls(other, wrong)):
                    self.assert_raised(BadModule, *call)
            for split in (None, (), (M,) * 6, "split"):
                self.assert_raised(BadModule, parts.is_split, wrong, split)

    def test_then_kinds(self):
        for unlike in UNLIKE:
            for other in (M, N, SIX, LARGE):
                for call in list(self.calls(unlike, other)) + list(self.calls(other, unlike)):
                    self.assert_raised(BadArgument, *call)

    def test_then_sizes(self):
        for large in (SIX, LARGE):
            for other in (M, cases.nothing(M), SIX, LARGE):
                for call in list(self.calls(large, other)) + list(self.calls(other, large)):
                    self.assert_raised(TooLarge, *call)

    def test_right_papers_of_large_modules(self):
        for judge, paper, small in zip(JUDGES, identity_papers(SIX), identity_papers(N)):
            self.assert_raised(TooLarge, judge, SIX, SIX, paper)
            self.assertIs(judge(N, N, small), True)

    def test_size_5_is_small(self):
        five = add(N, M)
        self.assertEqual((sum(five[2]), sum(SIX[2])), (5, 6))
        for call in self.calls(five, five):
            call[0](*call[1:])

    def test_splits_of_all_sizes(self):
        for module in (SIX, LARGE):
            none = cases.nothing(module)
            unit = support.ones(module[2])
            into, onto = tuple(((),) * dim for dim in module[2]), ((),) * 2
            self.assertIs(parts.is_split(module, (module, none, unit, unit, into, onto)), True)
            self.assertIs(parts.is_split(module, (none, module, into, onto, unit, unit)), True)
            self.assertIs(parts.is_split(module, (none, none, into, onto, into, onto)), False)
            self.assertIs(parts.is_split(module, None), False)
            self.assertIs(parts.is_split(M, (module, none, unit, unit, into, onto)), False)


class NothingChangesTest(unittest.TestCase):
    def test_right_arguments_stay(self):
        for one, two in small_pairs(7):
            kept = deepcopy((one, two))
            for function in PAIRS:
                self.assertTrue(support.is_plain(function(one, two)))
            for tell, judge, _ in TELLERS:
                paper = tell(one, two)
                same = deepcopy(paper)
                judge(one, two, paper)
                self.assertEqual(paper, same)
            split = parts.common(one, two)[0]
            same = deepcopy(split)
            self.assertIs(parts.is_split(one, split), True)
            self.assertEqual((split, one, two), (same,) + kept)

    def test_wrong_arguments_stay(self):
        lists = [["alike", [[1]], [[1]]], ["not", 0, [1]], {"made": []}, [[[1, 0], [0, 1]]]]
        kept = deepcopy(lists)
        for thing in lists + [lists, ("made", lists), ("apart", lists[0]), ("seen", lists), ("covered", lists), ("not", 0, lists[3])]:
            for judge in JUDGES:
                self.assertIs(judge(M, N, thing), False)
            self.assertIs(parts.is_split(M, thing), False)
            self.assertIs(parts.is_split(M, (thing,) * 6), False)
        self.assertEqual(lists, kept)


class InterfaceTest(unittest.TestCase):
    def test_each_name_stands_in_its_file(self):
        listed = {
            alike: ("alike", "is_likeness"),
            parts: ("is_split", "strangers", "common", "part_of", "is_part_paper"),
            copies: ("made_of", "covered_by", "seen_by", "is_made_paper", "is_covered_paper", "is_seen_paper"),
        }
        for file, names in listed.items():
            for name in names:
                self.assertEqual(getattr(file, name).__module__, file.__name__)

    def test_arguments_by_their_names(self):
        for function in PAIRS:
            function(module=M, other=N)
        for judge in JUDGES:
            self.assertIs(judge(module=M, other=N, paper=None), False)
        self.assertIs(parts.is_split(module=M, split=None), False)

    def test_yes_and_no_are_plain(self):
        self.assertIs(parts.strangers(M, N), False)
        self.assertIs(parts.strangers(M, cases.simple(5, cases.LINE, 2, 0)), True)


if __name__ == "__main__":
    unittest.main()
