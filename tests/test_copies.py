"""Points 10 and 11: made of copies, covered, seen; and what point 16 promises of them."""

import unittest
from itertools import combinations, product

from severalmaps.copies import covered_by, is_covered_paper, is_made_paper, is_seen_paper, made_of, seen_by
from severalmaps.modules import add, turned
from severalmaps.parts import part_of
from severalmaps.passages import identity, inverse, passages
from tests import cases, reckoning, support

FUNCTIONS = (
    (made_of, is_made_paper, reckoning.right_made, "made"),
    (covered_by, is_covered_paper, reckoning.right_covered, "covered"),
    (seen_by, is_seen_paper, reckoning.right_seen, "seen"),
)


class TellTest(unittest.TestCase):
    def assert_told(self, tell, module, other):
        function, judge, reckon, word = [row for row in FUNCTIONS if row[0] is tell][0]
        paper = function(module, other)
        self.assertTrue(support.is_plain(paper))
        self.assertTrue(reckon(module, other, paper), (word, module, other, paper))
        self.assertIs(judge(module, other, paper), True)
        return paper[0]

    def assert_all(self, module, other, made, covered, seen):
        told = [self.assert_told(tell, module, other) for tell in (made_of, covered_by, seen_by)]
        self.assertEqual(told, [
            "made" if made else "not", "covered" if covered else "not", "seen" if seen else "not",
        ])


class ToldTest(TellTest):
    def test_told_papers_are_right(self):
        for p in support.PRIMES:
            words = []
            for module, other in cases.pairs(71, (p,)):
                for one, two in ((module, other), (other, module)):
                    words.extend(self.assert_told(tell, one, two) for tell in (made_of, covered_by, seen_by))
            for word in ("made", "covered", "seen"):
                self.assertGreater(words.count(word), 40)
            self.assertGreater(words.count("not"), 120)

    def test_sums_of_copies(self):
        rng = support.source(72)
        for p in support.PRIMES:
            for arrows, dims, many in (
                (cases.LINE, (1, 1), 2), (cases.LOOP * 2, (1,), 5), (cases.LOOP, (2,), 2), ((), (0, 1), 4), (cases.CHAIN, (1, 0, 1), 2),
            ):
                module = support.random_module(rng, p, arrows, dims)
                whole = cases.moved(rng, cases.total(*[module] * many))
                self.assert_all(whole, module, True, True, True)
                self.assert_all(module, whole, True, True, True)
                more = cases.moved(rng, add(module, cases.simple(p, arrows, len(dims), 0)))
                self.assert_all(module, more, True, True, True)

    def test_a_part_of_a_sum_of_copies(self):
        for p in support.PRIMES:
            a, b, c = cases.single(p, 0, 1), cases.single(p, 1, 0), cases.single(p, 1, 1)
            self.assert_all(cases.total(a, b, a), add(a, b), True, True, True)
            self.assert_all(cases.total(a, b, b), cases.total(a, c, b), True, True, True)
            self.assert_all(cases.total(a, b), cases.total(a, c), False, False, False)
            self.assert_all(a, b, False, False, False)

    def test_covered_or_seen_alone(self):
        for p in support.PRIMES:
            long, short = cases.companion(p, (0, 0)), cases.companion(p, (0,))
            self.assert_all(short, long, False, True, True)
            self.assert_all(long, short, False, False, False)
            whole, start, end = cases.chain(p, (0, 1, 2)), cases.chain(p, (0, 1)), cases.chain(p, (1, 2))
            self.assert_all(start, whole, False, True, False)
            self.assert_all(end, whole, False, False, True)
            self.assert_all(whole, start, False, False, False)
            self.assert_all(add(start, end), whole, False, False, False)
            self.assert_all(whole, add(start, end), False, False, False)
            self.assert_all(cases.chain(p, (1,)), add(start, end), False, True, True)

    def test_size_0(self):
        for arrows, dims in cases.SMALL_SHAPES:
            module = support.zero_module(3, arrows, dims)
            none = cases.nothing(module)
            for other in (none, module):
                self.assert_all(none, other, True, True, True)
                self.assertEqual(made_of(none, other), ("made", ()))
            self.assert_all(module, module, True, True, True)
            empty = sum(dims) == 0
            self.assert_all(module, none, empty, empty, empty)

    def test_the_place_that_is_missed(self):
        for p in support.PRIMES:
            whole, start, end = cases.chain(p, (0, 1, 2)), cases.chain(p, (0, 1)), cases.chain(p, (1, 2))
            paper = seen_by(start, whole)
            self.assertEqual((paper[0], paper[1]), ("not", 0))
            self.assertIs(is_seen_paper(start, whole, ("not", 1, (1,))), True)
            self.assertIs(is_seen_paper(end, whole, ("not", 1, (1,))), False)
            paper = covered_by(end, whole)
            self.assertEqual((paper[0], paper[1]), ("not", 1))
            self.assertIs(is_covered_paper(end, whole, ("not", 2, (p - 1,))), True)
            self.assertIs(is_covered_paper(start, whole, ("not", 0, (1,))), False)
            self.assertIs(is_covered_paper(start, whole, ("not", 2, ())), False)


class MadePaperTest(unittest.TestCase):
    def test_own_pairs(self):
        rng = support.source(73)
        for module, other in cases.pairs(74, (2, 5, 13)):
            p = module[0]
            changes = support.random_changes(rng, module)
            moved = cases.led(module, changes)
            back = inverse(module, moved, changes)
            self.assertIs(is_made_paper(module, moved, ("made", ((changes, back),))), True)
            self.assertIs(is_made_paper(moved, module, ("made", ((back, changes),))), True)
            # A pair and its negative add nothing, and p times a pair neither.
            loops = [(there, behind) for there in passages(module, moved)[:2] for behind in passages(moved, module)[:2]]
            for there, behind in loops:
                less = reckoning.scaled(module, behind, p - 1)
                pairs = ((there, behind), (changes, back), (there, less))
                self.assertIs(is_made_paper(module, moved, ("made", pairs)), True)
                self.assertIs(is_made_paper(module, moved, ("made", ((there, behind),) * p + pairs)), True)
                for wrong in (pairs[:2], pairs[1:], pairs[::2]):
                    told = is_made_paper(module, moved, ("made", wrong))
                    self.assertIs(told, reckoning.right_made(module, moved, ("made", wrong)))

    def test_pairs_of_a_sum(self):
        for p in support.PRIMES:
            point = cases.point(p, 1, 1)
            whole = add(point, point)
            ins = [(((1,), (0,)),) * 2, (((0,), (1,)),) * 2]
            outs = [(((1, 0),),) * 2, (((0, 1),),) * 2]
            right = ((outs[0], ins[0]), (outs[1], ins[1]))
            self.assertIs(is_made_paper(whole, point, ("made", right)), True)
            self.assertIs(is_made_paper(whole, point, ("made", right[::-1])), True)
            for wrong in (
                right[:1], right[1:], ((outs[0], ins[1]), (outs[1], ins[0])), (ins[0], outs[0]), ((ins[0], outs[0]), (ins[1], outs[1])),
                (right[0] + (ins[0],), right[1]), (right[0][:1], right[1]), list(right), ([outs[0], ins[0]], right[1]), (), None,
            ):
                self.assertIs(is_made_paper(whole, point, ("made", wrong)), False)
            self.assertIs(is_made_paper(point, whole, ("made", ((ins[0], outs[0]),))), True)

    def test_all_readings(self):
        line = ((0, 1),)
        told = 0
        for module, other in (
            (cases.companion(2, (0, 0)), cases.companion(2, (0,))), (cases.single(3, 0), cases.single(3, 1)),
            (cases.companion(3, (0, 0)), cases.companion(3, (0,))), ((2, line, (1, 1), (((1,),),)), (2, line, (0, 2), (((), ()),))),
            ((5, (), (1, 1), ()), (5, (), (1, 0), ())), (cases.single(2, 1), cases.single(2, 1)),
            (add(cases.single(2, 0), cases.single(2, 1)), cases.single(2, 1)), ((2, (), (0, 2), ()), (2, (), (2, 0), ())),
            ((2, cases.LOOP, (2,), (((0, 1), (1, 1)),)), (2, cases.LOOP, (1,), (((1,),),))),
        ):
            right = 0
            for reading in support.all_tuples(module, module):
                judged = is_made_paper(module, other, ("not", reading))
                self.assertIs(judged, reckoning.right_made(module, other, ("not", reading)))
                right += judged
            self.assertEqual(right > 0, made_of(module, other)[0] == "not")
            told += right
        self.assertGreater(told, 20)

    def test_the_trace_is_that_of_the_product(self):
        # By way of the other module, all is led to the first vector by its second number.
        module, other = cases.companion(5, (0, 0)), cases.companion(5, (0,))
        loops = [reckoning.one_after_other(module, there, back) for there in passages(module, other) for back in passages(other, module)]
        self.assertEqual({tuple(bool(n) for n in support.flat(loop)) for loop in loops}, {(False, False, True, False)})
        self.assertIs(is_made_paper(module, other, ("not", (((1, 0), (3, 0)),))), True)
        self.assertIs(is_made_paper(module, other, ("not", (((1, 3), (0, 0)),))), False)
        self.assertIs(is_made_paper(module, other, ("not", (((3, 0), (2, 3)),))), True)
        self.assertIs(is_made_paper(module, other, ("not", (((2, 0), (0, 0)),))), False)

    def test_other_forms_of_readings(self):
        module, other = cases.single(7, 0), cases.single(7, 1)
        self.assertIs(is_made_paper(module, other, ("not", (((1,),),))), True)
        for wrong in ((((8,),),), (((True,),),), [((1,),)], (((1,),), ((0,),)), (), ((1,),), None, (((1, 0),),), (((6,),),)):
            self.assertIs(is_made_paper(module, other, ("not", wrong)), False)
        self.assertIs(is_made_paper(module, other, ("made", ())), False)
        self.assertIs(is_made_paper(module, other, ("not", (((1,),),), ())), False)


class PlacesTest(unittest.TestCase):
    """Papers that a module is covered or seen."""

    def test_all_places(self):
        for p in (2, 3):
            told = 0
            for module, other in cases.pairs(75, (p,)):
                if p ** max(module[2]) > 30:
                    continue
                for tell, judge, reckon, word in FUNCTIONS[1:]:
                    right = 0
                    for space, dim in enumerate(module[2]):
                        for numbers in product(range(p), repeat=dim):
                            judged = judge(module, other, ("not", space, numbers))
                            self.assertIs(judged, reckon(module, other, ("not", space, numbers)))
                            right += judged
                    self.assertEqual(right > 0, tell(module, other)[0] == "not", word)
                    told += right
            self.assertGreater(told, 100)

    def test_all_choices_of_passages(self):
        tried = 0
        for module, other in cases.pairs(76, (2,)) + cases.pairs(77, (5,))[:60:3]:
            for (tell, judge, reckon, word), (one, two) in zip(FUNCTIONS[1:], ((other, module), (module, other))):
                basis = passages(one, two)
                if len(basis) > 4:
                    continue
                for many in range(len(basis) + 1):
                    for chosen in combinations(basis, many):
                        judged = judge(module, other, (word, chosen))
                        self.assertIs(judged, reckon(module, other, (word, chosen)))
                        tried += judged
                self.assertIs(judge(module, other, (word, tuple(basis))), tell(module, other)[0] == word)
        self.assertGreater(tried, 60)

    def test_passages_several_times(self):
        rng = support.source(78)
        for p in support.PRIMES:
            module = support.random_module(rng, p, cases.LINE, (2, 3))
            unit, zero = identity(module), support.zeros(module, module)
            for _, judge, _, word in FUNCTIONS[1:]:
                self.assertIs(judge(module, module, (word, (unit,))), True)
                self.assertIs(judge(module, module, (word, (zero, unit, unit, zero))), True)
                self.assertIs(judge(module, module, (word, (unit,) * 300)), True)
                self.assertIs(judge(module, module, (word, (zero,))), False)
                self.assertIs(judge(module, module, (word, ())), False)
                self.assertIs(judge(module, module, (word, [unit])), False)
                self.assertIs(judge(module, module, (word, unit)), False)
                self.assertIs(judge(module, module, (word, (unit, None))), False)
                self.assertIs(judge(module, module, (word, (unit,), ())), False)

    def test_the_way_of_the_passages(self):
        for p in support.PRIMES:
            whole, start = cases.chain(p, (0, 1, 2)), cases.chain(p, (0, 1))
            ahead, = passages(whole, start)
            self.assertIs(is_covered_paper(start, whole, ("covered", (ahead,))), True)
            self.assertIs(is_seen_paper(start, whole, ("seen", (ahead,))), False)
            self.assertIs(is_covered_paper(whole, start, ("covered", (ahead,))), False)
            end = cases.chain(p, (1, 2))
            inside, = passages(end, whole)
            self.assertIs(is_seen_paper(end, whole, ("seen", (inside,))), True)
            self.assertIs(is_covered_paper(end, whole, ("covered", (inside,))), False)
            self.assertIs(is_seen_paper(whole, end, ("seen", (inside,))), False)

    def test_other_places(self):
        line = (3, ((0, 1),), (1, 2), (((1,), (0,)),))
        plain = (3, ((0, 1),), (1, 2), (((0,), (0,)),))
        paper = covered_by(line, plain)
        self.assertEqual(paper[:2], ("not", 0))
        self.assertIs(is_covered_paper(line, plain, ("not", 0, (2,))), True)
        for wrong in (
            ("not", 0, (0,)), ("not", 1, (1, 0)), ("not", 1, (0, 1)), ("not", 2, ()), ("not", -2, (1,)), ("not", False, (1,)), ("not", "0", (1,)),
            ("not", 0, [1]), ("not", 0, (1, 0)), ("not", 0, ()), ("not", 0, (4,)), ("not", 0, (-1,)), ("not", 0, (True,)), ("not", 0, 1),
            ("not", 0.0, (1,)), ("not", None, (1,)), ("not", (0,), (1,)), ("not", 0), ("not", 0, (1,), 0), ["not", 0, (1,)],
        ):
            self.assertIs(is_covered_paper(line, plain, wrong), False, wrong)
        self.assertIs(is_seen_paper(plain, line, ("not", 0, (1,))), True)
        self.assertIs(is_seen_paper(plain, line, ("not", False, (1,))), False)
        self.assertIs(is_seen_paper(plain, line, ("not", -2, (1,))), False)
        self.assertIs(is_seen_paper(plain, line, ("not", 0, (0,))), False)
        self.assertIs(is_seen_paper(plain, line, ("not", 1, (1, 0))), False)


class PromisesTest(unittest.TestCase):
    """Point 16."""

    def test_one_from_the_other(self):
        for module, other in cases.pairs(79):
            part, made = part_of(module, other)[0] == "part", made_of(module, other)[0] == "made"
            covered, seen = covered_by(module, other)[0] == "covered", seen_by(module, other)[0] == "seen"
            self.assertLessEqual(part, made)
            self.assertLessEqual(made, covered and seen)

    def test_made_of_as_a_part_of_a_sum(self):
        tried = []
        for module, other in cases.pairs(80):
            # Each part that does not split further asks for one copy at the most.
            many = sum(module[2])
            if many and many * sum(other[2]) <= 5:
                copies = cases.total(*[other] * many)
                tried.append(made_of(module, other)[0] == "made")
                self.assertEqual(part_of(module, copies)[0] == "part", tried[-1])
        self.assertGreater(tried.count(True), 20)
        self.assertGreater(tried.count(False), 20)

    def test_turned_modules(self):
        for module, other in cases.pairs(81, (2, 3, 7)):
            one, two = turned(module), turned(other)
            self.assertEqual(covered_by(module, other)[0] == "covered", seen_by(one, two)[0] == "seen")
            self.assertEqual(seen_by(module, other)[0] == "seen", covered_by(one, two)[0] == "covered")
            self.assertEqual(made_of(module, other)[0], made_of(one, two)[0])

    def test_bases_do_not_matter(self):
        rng = support.source(82)
        for module, other in cases.pairs(83, (5,)):
            one, two = cases.moved(rng, module), cases.moved(rng, other)
            for tell in (made_of, covered_by, seen_by):
                self.assertEqual(tell(one, two)[0], tell(module, other)[0])


if __name__ == "__main__":
    unittest.main()
