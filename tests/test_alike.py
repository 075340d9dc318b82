"""Point 5: papers of likeness; and what point 16 promises of them."""

import unittest
from itertools import product

from severalmaps.alike import alike, is_likeness
from severalmaps.modules import add, led, turned
from severalmaps.parts import common
from severalmaps.passages import identity, inverse, number
from tests import cases, reckoning, support


def classes(modules):
    """For each of all modules of some dims, the first one that leads to it by changes."""
    p, _, dims, _ = modules[0]
    changes = support.all_changes(p, dims)
    told = {}
    for module in modules:
        if module not in told:
            for change in changes:
                told[led(module, change)] = module
    return told


class AlikeTest(unittest.TestCase):
    def assert_told(self, module, other):
        paper = alike(module, other)
        self.assertTrue(support.is_plain(paper))
        self.assertTrue(reckoning.right_likeness(module, other, paper), (module, other, paper))
        self.assertIs(is_likeness(module, other, paper), True)
        return paper[0]

    def assert_both_ways(self, module, other, word):
        self.assertEqual(self.assert_told(module, other), word)
        self.assertEqual(self.assert_told(other, module), word)

    def test_told_papers_are_right(self):
        for p in support.PRIMES:
            words = []
            for module, other in cases.pairs(31, (p,)):
                word = self.assert_told(module, other)
                self.assertEqual(self.assert_told(other, module), word)
                words.append(word)
            self.assertGreater(words.count("alike"), 20)
            self.assertGreater(words.count("apart"), 20)

    def test_other_bases_are_alike(self):
        rng = support.source(32)
        for p in support.PRIMES:
            for arrows, dims in cases.SMALL_SHAPES:
                module = support.random_module(rng, p, arrows, dims)
                self.assert_both_ways(module, cases.moved(rng, module), "alike")
                self.assert_both_ways(module, module, "alike")

    def test_by_all_changes_of_basis(self):
        rng = support.source(33)
        for p, arrows, dims in (
            (2, (), (2,)), (2, cases.LOOP, (2,)), (2, cases.LOOP * 2, (2,)), (2, cases.LINE, (1, 2)), (2, cases.LINE, (2, 2)),
            (2, cases.LOOP, (3,)), (2, cases.ROUND, (2, 2)), (2, cases.CHAIN, (1, 2, 1)), (3, cases.LOOP, (2,)),
            (3, cases.LINE, (1, 1)), (5, cases.LINE, (1, 1)), (2, ((0, 1), (1, 1)), (2, 2)), (7, cases.LOOP * 2, (1,)),
        ):
            modules = support.all_modules(p, arrows, dims)
            first = classes(modules)
            for _ in range(120):
                module, other = rng.choice(modules), rng.choice(modules)
                same = "alike" if first[module] == first[other] else "apart"
                self.assertEqual(self.assert_told(module, other), same)
            firsts = sorted(set(first.values()))[:12]
            for at, module in enumerate(firsts):
                for other in firsts[:at]:
                    self.assert_both_ways(module, other, "apart")

    def test_named_ones(self):
        rng = support.source(34)
        for p in support.PRIMES:
            point, moved = cases.point, cases.moved
            one, two = point(p, 1, 0), point(p, 1, 1)
            self.assert_both_ways(one, two, "apart")
            self.assert_both_ways(point(p, 1, p - 1), point(p, p - 1, 1), "alike")
            self.assert_both_ways(moved(rng, add(one, two)), moved(rng, add(two, one)), "alike")
            self.assert_both_ways(moved(rng, add(one, one)), moved(rng, add(two, one)), "apart")
            a, b = cases.single(p, 0, 1), cases.single(p, 1, 0)
            self.assert_both_ways(cases.total(a, b, b), cases.total(a, a, b), "apart")
            self.assert_both_ways(cases.total(a, b, b), moved(rng, cases.total(b, a, b)), "alike")
            chains = [cases.chain(p, spaces) for spaces in ((0, 1, 2), (1,), (0, 1), (1, 2))]
            self.assert_both_ways(add(chains[0], chains[1]), add(chains[2], chains[3]), "apart")
            for numbers in cases.without_roots(p, 2)[:2] + cases.without_roots(p, 3)[:2]:
                module = cases.companion(p, numbers)
                self.assert_both_ways(module, turned(module), "alike")
                self.assert_both_ways(module, cases.companion(p, (0,) + numbers[1:]), "apart")
            numbers = cases.without_roots(p, 2)[0]
            module, square = cases.companion(p, numbers), cases.companion(p, cases.squared(p, numbers))
            self.assert_both_ways(add(module, module), square, "apart")
            self.assert_both_ways(moved(rng, square), square, "alike")

    def test_told_by_a_third_one_alone(self):
        for p in support.PRIMES:
            for module, other in cases.told_by_a_third(p):
                for third in (module, other):
                    self.assertEqual(support.plain_number(third, module), support.plain_number(third, other))
                self.assert_both_ways(module, other, "apart")

    def test_size_0(self):
        for p in support.PRIMES:
            for arrows, dims in cases.SMALL_SHAPES:
                module = support.zero_module(p, arrows, dims)
                none = cases.nothing(module)
                self.assert_both_ways(none, none, "alike")
                self.assert_both_ways(none, module, "apart" if sum(dims) else "alike")
            self.assertEqual(alike((p, (), (0,), ()), (p, (), (0,), ())), ("alike", ((),), ((),)))


class IsLikenessTest(unittest.TestCase):
    def test_own_changes_and_their_inverses(self):
        rng = support.source(35)
        for module in [pair[0] for pair in cases.pairs(36, (2, 13))]:
            changes = support.random_changes(rng, module)
            other = led(module, changes)
            back = inverse(module, other, changes)
            self.assertIs(is_likeness(module, other, ("alike", changes, back)), True)
            self.assertIs(is_likeness(other, module, ("alike", back, changes)), True)
            self.assertIs(is_likeness(module, module, ("alike", identity(module), identity(module))), True)
            if changes != back and any(module[2]):
                paper = ("alike", back, changes)
                self.assertIs(is_likeness(module, other, paper), reckoning.right_likeness(module, other, paper))
                self.assertIs(is_likeness(module, other, ("alike", changes, changes)), False)

    def test_one_way_is_not_enough(self):
        for p in support.PRIMES:
            line = cases.point(p, 1, 1)
            wide = add(line, line)
            into, onto = (((1,), (0,)),) * 2, (((1, 0),),) * 2
            self.assertTrue(reckoning.is_pair(line, wide, into, onto))
            self.assertTrue(reckoning.is_identity(line, into, onto))
            self.assertIs(is_likeness(line, wide, ("alike", into, onto)), False)
            self.assertIs(is_likeness(wide, line, ("alike", onto, into)), False)

    def test_all_tuples_of_matrices(self):
        one, two = cases.point(2, 1, 0), cases.point(2, 0, 1)
        wide = (2, cases.LOOP, (2,), (((0, 1), (0, 0)),))
        turn = (2, cases.LOOP, (2,), (((0, 0), (1, 0)),))
        for module, other in ((one, one), (one, two), (wide, turn), (wide, wide), (one, support.zero_module(2, *one[1:3]))):
            right = 0
            for there in support.all_tuples(module, other):
                for back in support.all_tuples(other, module):
                    paper = ("alike", there, back)
                    told = is_likeness(module, other, paper)
                    self.assertIs(told, reckoning.right_likeness(module, other, paper))
                    right += told
            self.assertEqual(right > 0, alike(module, other)[0] == "alike")

    def test_modules_that_tell_apart(self):
        for p in (2, 5):
            for arrows, dims in ((cases.LINE, (1, 1)), (cases.LOOP, (2,)), (cases.ROUND, (1, 1))):
                rng = support.source(37)
                modules = [support.random_module(rng, p, arrows, dims) for _ in range(6)]
                thirds = modules + [cases.nothing(modules[0]), cases.total(*modules)]
                thirds.extend(cases.simple(p, arrows, len(dims), v) for v in range(len(dims)))
                for module, other, third in product(modules, modules, thirds):
                    told = is_likeness(module, other, ("apart", third))
                    self.assertIs(told, reckoning.tells_apart(third, module, other))
                    if told:
                        self.assertEqual(alike(module, other)[0], "apart")

    def test_a_large_module_tells_apart(self):
        rng = support.source(38)
        for p in (2, 7):
            one, two = cases.point(p, 1, 0), cases.point(p, 0, 1)
            large = cases.total(*[one] * 62, cases.simple(p, cases.LINE, 2, 0))
            self.assertEqual(sum(large[2]), 125)
            large = cases.moved(rng, large)
            self.assertEqual((number(large, one), number(large, two)), (62, 0))
            self.assertIs(is_likeness(one, two, ("apart", large)), True)
            self.assertIs(is_likeness(two, one, ("apart", large)), True)
            self.assertIs(is_likeness(one, cases.moved(rng, one), ("apart", large)), False)
            wide = cases.total(*[cases.simple(p, cases.LINE, 2, 1)] * 125)
            self.assertIs(is_likeness(one, two, ("apart", wide)), False)
            self.assertIs(is_likeness(one, add(one, two), ("apart", wide)), True)

    def test_a_module_of_another_kind(self):
        one, two = cases.point(5, 1, 0), cases.point(5, 0, 1)
        self.assertIs(is_likeness(one, two, ("apart", one)), True)
        for third in (
            cases.point(7, 1, 0), (5, ((0, 1),), (1, 1), (((1,),),)), (5, ((1, 0), (0, 1)), (1, 1), one[3]),
            (5, cases.LINE, (1, 1, 0), one[3]), list(one), one[:3], (5, cases.LINE, (1, 1), (((True,),), ((0,),))),
        ):
            self.assertIs(is_likeness(one, two, ("apart", third)), False)


class PromisesTest(unittest.TestCase):
    """Point 16."""

    def test_sums_with_a_third(self):
        rng = support.source(39)
        words = []
        for p in support.PRIMES:
            for arrows, dims, more in (
                (cases.LINE, (1, 1), (1, 2)), (cases.LOOP, (2,), (3,)), (cases.LOOP * 2, (2,), (1,)), (cases.ROUND, (1, 1), (1, 0)),
                (cases.CHAIN, (1, 1, 1), (0, 1, 1)), ((), (1, 2), (2, 0)),
            ):
                for _ in range(3):
                    module, third = support.random_module(rng, p, arrows, dims), support.random_module(rng, p, arrows, more)
                    for other in (cases.moved(rng, module), support.random_module(rng, p, arrows, dims)):
                        word = alike(module, other)[0]
                        words.append(word)
                        one, two = cases.moved(rng, add(module, third)), add(third, other)
                        self.assertEqual(alike(one, two)[0], word)
        self.assertGreater(words.count("apart"), 40)

    def test_twice_a_module(self):
        rng = support.source(40)
        for p in support.PRIMES:
            for arrows, dims in ((cases.LINE, (1, 1)), (cases.LOOP, (2,)), (cases.LOOP * 2, (1,)), (cases.ROUND, (1, 1))):
                for _ in range(4):
                    module, other = (support.random_module(rng, p, arrows, dims) for _ in range(2))
                    one, two = cases.moved(rng, add(module, module)), add(other, other)
                    self.assertEqual(alike(one, two)[0], alike(module, other)[0])
                    same = cases.moved(rng, module)
                    self.assertEqual(alike(one, add(same, same))[0], "alike")

    def test_turned_modules(self):
        for module, other in cases.pairs(41, (2, 3, 11)):
            self.assertEqual(alike(turned(module), turned(other))[0], alike(module, other)[0])

    def test_parts_and_rests(self):
        for module, other in cases.pairs(42, (2, 5)):
            for whole, split in zip((module, other), common(module, other)):
                self.assertEqual(alike(whole, add(split[0], split[1]))[0], "alike")


if __name__ == "__main__":
    unittest.main()
