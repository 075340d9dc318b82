"""Points 7 and 9: splits, common parts, strangers, papers of parts; and what point 16 promises of them."""

import unittest
from itertools import product

from severalmaps.alike import alike
from severalmaps.modules import add, led
from severalmaps.parts import common, is_part_paper, is_split, part_of, strangers
from severalmaps.passages import after, identity, inverse, passages
from tests import cases, reckoning, support


def sides(part, other):
    """The split of the sum of two modules with the first one as its part, in the basis of the sum."""
    one, two = part[2], other[2]
    units, others = identity(part), identity(other)
    zero = tuple(((0,) * b,) * a for a, b in zip(one, two))
    back = tuple(((0,) * a,) * b for a, b in zip(one, two))
    into = tuple(first + second for first, second in zip(units, back))
    into_rest = tuple(first + second for first, second in zip(zero, others))
    onto = tuple(tuple(x + y for x, y in zip(first, second)) for first, second in zip(units, zero))
    onto_rest = tuple(tuple(x + y for x, y in zip(first, second)) for first, second in zip(back, others))
    return (part, other, into, onto, into_rest, onto_rest)


def own_split(rng, part, other):
    """A sum of two modules in a drawn other basis, and its split."""
    whole = add(part, other)
    changes = support.random_changes(rng, whole)
    told = led(whole, changes)
    back = inverse(whole, told, changes)
    part, other, into, onto, into_rest, onto_rest = sides(part, other)
    return told, (
        part, other,
        after(part, whole, told, into, changes), after(told, whole, part, back, onto),
        after(other, whole, told, into_rest, changes), after(told, whole, other, back, onto_rest),
    )


def turned_round(split):
    """The split with the rest as its part."""
    part, rest, into, onto, into_rest, onto_rest = split
    return (rest, part, into_rest, onto_rest, into, onto)


def own_splits(seed):
    """Modules and their splits, of parts of size 0 and of other sizes."""
    rng = support.source(seed)
    told = []
    for p in support.PRIMES:
        for arrows, dims in cases.SMALL_SHAPES:
            one = support.random_module(rng, p, arrows, dims)
            two = support.random_module(rng, p, arrows, tuple(reversed(dims)))
            told.append(own_split(rng, one, two))
            told.append(own_split(rng, one, cases.nothing(one)))
            told.append(own_split(rng, cases.nothing(one), one))
    return told


class IsSplitTest(unittest.TestCase):
    def test_own_splits(self):
        for module, split in own_splits(51):
            self.assertIs(is_split(module, split), True)
            self.assertIs(is_split(module, turned_round(split)), True)
            self.assertTrue(reckoning.right_split(module, split))
            if any(module[2]):
                self.assertIs(is_split(cases.nothing(module), split), False)

    def test_one_thing_spoiled(self):
        rng = support.source(52)
        point = cases.point(5, 1, 2)
        for one, two in (
            (point, cases.simple(5, cases.LINE, 2, 1)), (cases.single(2, 0), cases.single(2, 1)), (cases.single(2, 1), cases.single(2, 1)),
            ((3, (), (1, 0), ()), (3, (), (0, 1), ())), (cases.nothing(point), point),
        ):
            module, split = own_split(rng, one, two)
            p = module[0]
            wrong = list(support.spoiled(split, p)) + list(support.changed(split, p)) + list(support.exchanged(split))
            right = 0
            for other in wrong + list(support.THINGS):
                told = is_split(module, other)
                self.assertIs(told, reckoning.right_split(module, other), other)
                right += told
            self.assertLess(right, len(wrong) // 10)

    def test_each_condition_alone(self):
        # Passages of which all but one of the conditions hold.
        one = (5, (), (1,), ())
        two, none = (5, (), (2,), ()), (5, (), (0,), ())
        unit, zero = (((1,),),), (((0,),),)
        empty_in, empty_out = (((),),), ((),)
        self.assertIs(is_split(one, (one, none, unit, unit, empty_in, empty_out)), True)
        self.assertIs(is_split(one, (one, one, unit, unit, zero, zero)), False)
        self.assertIs(is_split(one, (one, one, zero, zero, unit, unit)), False)
        self.assertIs(is_split(one, (none, none, empty_in, empty_out, empty_in, empty_out)), False)
        self.assertIs(is_split(one, (one, none, (((2,),),), (((3,),),), empty_in, empty_out)), True)
        self.assertIs(is_split(one, (one, none, (((2,),),), (((2,),),), empty_in, empty_out)), False)
        first, second = (((1,), (0,)),), (((0,), (1,)),)
        out, other_out = (((1, 0),),), (((0, 1),),)
        self.assertIs(is_split(two, (one, one, first, out, second, other_out)), True)
        self.assertIs(is_split(two, (one, one, first, other_out, second, out)), False)
        slant, slant_out = (((1,), (1,)),), (((1, 4),),)
        self.assertIs(is_split(two, (one, one, first, slant_out, slant, other_out)), True)
        self.assertIs(is_split(two, (one, one, first, out, slant, other_out)), False)
        self.assertIs(is_split(two, (one, one, first, slant_out, second, other_out)), False)
        self.assertIs(is_split(two, (one, one, second, other_out, first, slant_out)), False)

    def test_passages_alone_are_not_enough(self):
        # The spaces split, but the map leads the one into the other.
        module = (7, cases.LOOP, (2,), (((0, 1), (0, 0)),))
        plain = (7, cases.LOOP, (1,), (((0,),),))
        first, second = (((1,), (0,)),), (((0,), (1,)),)
        out, other_out = (((1, 0),),), (((0, 1),),)
        self.assertIs(is_split(module, (plain, plain, first, out, second, other_out)), False)
        self.assertIs(is_split(add(plain, plain), (plain, plain, first, out, second, other_out)), True)
        other = (11,) + plain[1:]
        self.assertIs(is_split(add(plain, plain), (other, plain, first, out, second, other_out)), False)
        self.assertIs(is_split(add(plain, plain), (plain, other, first, out, second, other_out)), False)
        longer = (7, cases.LOOP, (1, 0), (((0,),),))
        self.assertIs(is_split(add(plain, plain), (longer, longer, first, out, second, other_out)), False)

    def test_large_modules(self):
        rng = support.source(53)
        for p, arrows, dims in ((13, cases.LOOP * 5, (62,)), (2, cases.LINE, (30, 32)), (5, (), (1, 1, 0, 60))):
            one, two = (support.random_module(rng, p, arrows, dims) for _ in range(2))
            module, split = own_split(rng, one, two)
            self.assertIs(is_split(module, split), True)
            for at, passage in enumerate(split[2:]):
                rows = passage[0]
                row = ((rows[0][0] + 1) % p,) + rows[0][1:]
                wrong = ((row,) + rows[1:],) + passage[1:]
                self.assertIs(is_split(module, split[:at + 2] + (wrong,) + split[at + 3:]), False)


class CommonTest(unittest.TestCase):
    def assert_common(self, module, other):
        told = common(module, other)
        self.assertTrue(support.is_plain(told))
        self.assertIs(type(told), tuple)
        split, other_split = told
        self.assertTrue(reckoning.right_split(module, split))
        self.assertTrue(reckoning.right_split(other, other_split))
        self.assertIs(is_split(module, split), True)
        self.assertIs(is_split(other, other_split), True)
        self.assertEqual(split[0], other_split[0])
        self.assertTrue(reckoning.are_strangers(split[1], other_split[1]))
        self.assertIs(strangers(split[1], other_split[1]), True)
        self.assertIs(strangers(module, other), sum(split[0][2]) == 0)
        return split[0]

    def test_told_pairs_are_right(self):
        sizes = []
        for module, other in cases.pairs(54):
            part = self.assert_common(module, other)
            back = self.assert_common(other, module)
            self.assertEqual(alike(part, back)[0], "alike")
            sizes.append(sum(part[2]))
        self.assertEqual(sorted(set(sizes)), [0, 1, 2, 3, 4, 5])

    def test_no_common_part_is_larger(self):
        tried = 0
        for module, other in cases.pairs(55, (2, 3, 5)):
            best = reckoning.largest_common(module, other, 800)
            if best is not None:
                tried += 1
                self.assertEqual(sum(self.assert_common(module, other)[2]), best)
                self.assertIs(strangers(module, other), best == 0)
        self.assertGreater(tried, 100)

    def test_named_ones(self):
        rng = support.source(56)
        for p in support.PRIMES:
            one, two, three = cases.point(p, 1, 0), cases.point(p, 0, 1), cases.point(p, 1, 1)
            part = self.assert_common(cases.moved(rng, add(one, two)), cases.moved(rng, add(three, one)))
            self.assertEqual(alike(part, one)[0], "alike")
            self.assertIs(strangers(one, two), True)
            self.assertIs(strangers(add(one, three), two), True)
            self.assertIs(strangers(add(one, two), two), False)
            a, b = cases.single(p, 0, 1), cases.single(p, 1, 0)
            part = self.assert_common(cases.moved(rng, cases.total(a, b, b)), cases.moved(rng, cases.total(a, b, a)))
            self.assertEqual(alike(part, add(b, a))[0], "alike")
            numbers = cases.without_roots(p, 2)[0]
            module, square = cases.companion(p, numbers), cases.companion(p, cases.squared(p, numbers))
            self.assertIs(strangers(module, square), True)
            self.assertIs(strangers(square, square), False)
            self.assertIs(strangers(cases.moved(rng, add(module, module)), module), False)
            # The steps of a map without powers: parts of unlike lengths are strangers.
            steps = [cases.companion(p, (0,) * n) for n in (1, 2, 3, 4, 5)]
            for at, short in enumerate(steps):
                for long in steps[:at]:
                    self.assertIs(strangers(short, long), True)
                    self.assertIs(strangers(long, short), True)
            self.assertIs(strangers(add(steps[0], steps[0]), steps[2]), True)
            self.assertIs(strangers(add(steps[0], steps[1]), steps[2]), True)
            part = self.assert_common(cases.moved(rng, add(steps[0], steps[1])), cases.moved(rng, add(steps[1], steps[2])))
            self.assertEqual(alike(part, steps[1])[0], "alike")

    def test_where_most_passages_are_not_invertible(self):
        rng = support.source(57)
        for p in (2, 3, 13):
            plain = (p, (), (3,), ())
            self.assertEqual(self.assert_common(plain, plain)[2], (3,))
            steps = cases.companion(p, (0, 0))
            module = cases.moved(rng, add(steps, steps))
            self.assertEqual(self.assert_common(module, cases.moved(rng, module))[2], (4,))
            self.assertEqual(self.assert_common(module, cases.moved(rng, steps))[2], (2,))

    def test_size_0(self):
        for arrows, dims in cases.SMALL_SHAPES:
            module = support.zero_module(7, arrows, dims)
            none = cases.nothing(module)
            for one, two in ((none, none), (none, module), (module, none)):
                self.assertIs(strangers(one, two), True)
                self.assertEqual(sum(self.assert_common(one, two)[2]), 0)
            self.assertEqual(sum(self.assert_common(module, module)[2]), sum(dims))
            self.assertIs(strangers(module, module), sum(dims) == 0)


class PartOfTest(unittest.TestCase):
    def assert_told(self, module, other):
        paper = part_of(module, other)
        self.assertTrue(support.is_plain(paper))
        self.assertTrue(reckoning.right_part(module, other, paper), (module, other, paper))
        self.assertIs(is_part_paper(module, other, paper), True)
        return paper[0]

    def test_told_papers_are_right(self):
        for p in support.PRIMES:
            words = []
            for module, other in cases.pairs(58, (p,)):
                words.append(self.assert_told(module, other))
                words.append(self.assert_told(other, module))
            self.assertGreater(words.count("part"), 40)
            self.assertGreater(words.count("not"), 40)

    def test_parts_of_sums(self):
        rng = support.source(59)
        for p in support.PRIMES:
            for arrows, first, second in ((cases.LINE, (1, 1), (1, 2)), (cases.LOOP * 2, (2,), (3,)), ((), (1, 1, 0, 0), (0, 1, 0, 2))):
                one, two = support.random_module(rng, p, arrows, first), support.random_module(rng, p, arrows, second)
                whole = cases.moved(rng, add(one, two))
                for part in (one, two, whole, cases.nothing(one), cases.moved(rng, two)):
                    self.assertEqual(self.assert_told(part, whole), "part")
                for part in (one, two):
                    self.assertEqual(self.assert_told(whole, part), "not")

    def test_by_trying_all_passages(self):
        tried = []
        for module, other in cases.pairs(60, (2, 3)):
            ahead, behind = (reckoning.all_passages(a, b, 81) for a, b in ((module, other), (other, module)))
            if ahead is not None and behind is not None:
                found = any(reckoning.is_identity(module, there, back) for there, back in product(ahead, behind))
                tried.append(found)
                self.assertEqual(self.assert_told(module, other), "part" if found else "not")
        self.assertGreater(tried.count(True), 20)
        self.assertGreater(tried.count(False), 20)

    def test_named_ones(self):
        for p in support.PRIMES:
            numbers = cases.without_roots(p, 2)[0]
            module, square = cases.companion(p, numbers), cases.companion(p, cases.squared(p, numbers))
            self.assertEqual(self.assert_told(module, square), "not")
            self.assertEqual(self.assert_told(module, add(module, module)), "part")
            a, b = cases.single(p, 0, 1), cases.single(p, 1, 0)
            self.assertEqual(self.assert_told(add(a, a), cases.total(a, b, b)), "not")
            self.assertEqual(self.assert_told(add(b, b), cases.total(a, b, b)), "part")


class IsPartPaperTest(unittest.TestCase):
    def test_own_papers(self):
        for module, split in own_splits(61):
            part, rest, into, onto, into_rest, onto_rest = split
            if sum(module[2]) > 5:
                continue
            self.assertIs(is_part_paper(part, module, ("part", into, onto)), True)
            self.assertIs(is_part_paper(rest, module, ("part", into_rest, onto_rest)), True)
            wrong = ("part", into, onto_rest)
            self.assertIs(is_part_paper(part, module, wrong), reckoning.right_part(part, module, wrong))
            for one in (part, rest):
                for paper in (("not", split, split), ("not", split, turned_round(split))):
                    self.assertIs(is_part_paper(one, module, paper), reckoning.right_part(one, module, paper))

    def test_own_papers_of_the_other_form(self):
        rng = support.source(62)
        for p in support.PRIMES:
            one, two, three = cases.point(p, 1, 0), cases.point(p, 0, 1), cases.simple(p, cases.LINE, 2, 0)
            (module, split), (other, other_split) = own_split(rng, one, two), own_split(rng, one, three)
            paper = ("not", split, other_split)
            self.assertIs(is_part_paper(module, other, paper), True)
            self.assertIs(is_part_paper(other, module, ("not", other_split, split)), True)
            self.assertIs(is_part_paper(other, module, paper), False)
            self.assertIs(is_part_paper(module, other, ("not", other_split, split)), False)
            # The equal parts are not yet all that they have in common.
            whole, wide = own_split(rng, cases.nothing(one), module)
            self.assertIs(is_part_paper(whole, other, ("not", wide, own_split(rng, cases.nothing(one), other)[1])), False)
            self.assertIs(is_part_paper(module, other, ("not", turned_round(split), other_split)), False)
            # The parts are alike, but not equal.
            like = led(one, (((1,),), ((p - 1,),)))
            unlike, unlike_split = own_split(rng, like, three)
            paper = ("not", split, unlike_split)
            self.assertIs(is_part_paper(module, unlike, paper), like == one)
            # Nothing is left of the first module.
            small, small_split = own_split(rng, one, cases.nothing(one))
            self.assertIs(is_part_paper(small, other, ("not", small_split, other_split)), False)
            self.assertIs(is_part_paper(other, small, ("not", other_split, small_split)), True)

    def test_all_tuples_of_matrices(self):
        one, wide = cases.single(2, 1), (2, cases.LOOP, (2,), (((0, 0), (0, 1)),))
        for module, other in ((one, wide), (wide, one), (wide, wide), (one, one), (one, cases.single(2, 0))):
            right = 0
            for into in support.all_tuples(module, other):
                for onto in support.all_tuples(other, module):
                    told = is_part_paper(module, other, ("part", into, onto))
                    self.assertIs(told, reckoning.right_part(module, other, ("part", into, onto)))
                    right += told
            self.assertEqual(right > 0, part_of(module, other)[0] == "part")


class PromisesTest(unittest.TestCase):
    """Point 16."""

    def test_a_module_is_the_sum_of_part_and_rest(self):
        for module, split in own_splits(63):
            if sum(module[2]) <= 5:
                self.assertEqual(alike(module, add(split[0], split[1]))[0], "alike")
                self.assertEqual(part_of(split[0], module)[0], "part")
                self.assertEqual(part_of(split[1], module)[0], "part")

    def test_a_common_part_of_own_splits(self):
        rng = support.source(64)
        for p in support.PRIMES:
            for arrows, dims, more in ((cases.LINE, (1, 1), (1, 1)), (cases.LOOP, (2,), (2,)), (cases.ROUND, (1, 1), (2, 1)), (cases.LOOP * 3, (3,), (1,))):
                part, one, two = (support.random_module(rng, p, arrows, told) for told in (dims, more, more))
                module, other = own_split(rng, part, one)[0], own_split(rng, two, part)[0]
                told = common(module, other)[0][0]
                self.assertGreaterEqual(sum(told[2]), sum(dims))
                self.assertEqual(part_of(part, told)[0], "part")

    def test_alike_modules_are_parts_of_each_other(self):
        for module, other in cases.pairs(65, (2, 7)):
            both = part_of(module, other)[0] == "part" and part_of(other, module)[0] == "part"
            self.assertEqual(both, alike(module, other)[0] == "alike")

    def test_bases_do_not_matter(self):
        rng = support.source(66)
        for module, other in cases.pairs(67, (3,)):
            one, two = cases.moved(rng, module), cases.moved(rng, other)
            self.assertIs(strangers(one, two), strangers(module, other))
            self.assertEqual(part_of(one, two)[0], part_of(module, other)[0])
            self.assertEqual(len(passages(one, two)), len(passages(module, other)))


if __name__ == "__main__":
    unittest.main()
