"""Point 13: the numbers of units and of fellows."""

import unittest
from copy import deepcopy

from severalmaps.alike import alike
from severalmaps.errors import BadModule, TooLarge
from severalmaps.modules import add, led, turned
from severalmaps.numbers import fellows, units
from severalmaps.passages import number
from tests import cases, plain, reckoning, support

# Arrows and dims whose changes can all be tried, by the primes.
TRIED = {
    2: (
        (cases.LOOP, (3,)), (cases.LOOP * 2, (3,)), (cases.LINE, (2, 2)), (cases.ROUND, (3, 1)), (((0, 1), (1, 2), (1, 1)), (1, 2, 2)),
        (((0, 1), (1, 2), (2, 3), (3, 0), (2, 2)), (1, 2, 1, 1)), ((), (2, 1)), (((0, 1),), (2, 3)), (cases.CHAIN, (2, 1, 2)),
    ),
    3: ((cases.LOOP, (2,)), (cases.LINE, (1, 2)), (cases.ROUND, (2, 1)), (((0, 1), (1, 1)), (2, 1)), ((), (2,))),
    5: ((cases.LOOP, (2,)), (cases.LINE, (1, 1)), (cases.CHAIN, (1, 1, 1)), (cases.LOOP * 3, (2,))),
    7: ((cases.LOOP, (1,)), (cases.ROUND, (1, 1)), (cases.CHAIN, (1, 1, 1))),
    11: ((cases.LOOP * 2, (1,)), (cases.ROUND, (1, 1)), (cases.LINE, (0, 1))),
    13: ((cases.LOOP, (1,)), (cases.LINE, (1, 1)), (cases.CHAIN, (1, 0, 1)), (cases.LOOP, (0,))),
}


def tried_modules(seed):
    """Modules of these shapes: drawn ones, such with few numbers but 0, and such without any."""
    rng = support.source(seed)
    told = []
    for p, shapes in TRIED.items():
        for arrows, dims in shapes:
            told.append(support.zero_module(p, arrows, dims))
            for _ in range(4):
                module = support.random_module(rng, p, arrows, dims)
                told.append(module)
                told.append(module[:3] + (tuple(
                    tuple(tuple(a * rng.randrange(2) for a in row) for row in matrix) for matrix in module[3]
                ),))
    return [module for module in told if module[0] ** support.plain_number(module, module) <= 4096]


class UnitsTest(unittest.TestCase):
    def test_against_all_changes(self):
        modules = tried_modules(101)
        self.assertGreater(len(modules), 150)
        for module in modules:
            told = units(module)
            self.assertIs(type(told), int)
            self.assertEqual(told, plain.count_units(module), module)

    def test_against_all_passages(self):
        told = []
        for module, other in cases.pairs(102, (2, 3, 7)):
            for one in (module, other):
                if one[0] ** number(one, one) <= 300:
                    told.append(units(one))
                    self.assertEqual(told[-1], plain.count_units_of_passages(one))
        self.assertGreater(len(set(told)), 15)

    def test_known_numbers(self):
        for p in support.PRIMES:
            self.assertEqual(units((p, (), (0,), ())), 1)
            self.assertEqual(units((p, cases.LOOP * 5, (0, 0, 0, 0), ((),) * 5)), 1)
            self.assertEqual(units(cases.single(p, 1)), p - 1)
            self.assertEqual(units(cases.point(p, 1, 1)), p - 1)
            self.assertEqual(units((p, (), (1, 1, 1), ())), (p - 1) ** 3)
            # The numbers of a field with p to the power 3 elements but 0, and those of polynomials modulo a square.
            self.assertEqual(units(cases.companion(p, cases.without_roots(p, 3)[0])), p ** 3 - 1)
            self.assertEqual(units(cases.companion(p, (0, 0))), p * (p - 1))
            self.assertEqual(units(cases.chain(p, (0, 1, 2))), p - 1)
        self.assertEqual(units((2, (), (3,), ())), 168)
        self.assertEqual(units((3, (), (2,), ())), 48)
        self.assertEqual(units((7, (), (2,), ())), 48 * 42)
        self.assertEqual(units(support.zero_module(2, cases.LOOP * 5, (3,))), 168)

    def test_the_last_number_below_the_bound(self):
        # [M, M] and what the plain count of all passages tells.
        for p, dims, many in (
            (2, (3, 1, 1), 11), (3, (2, 1, 1, 1), 7), (5, (2, 1), 5), (7, (2,), 4), (7, (1, 1, 1, 1), 4),
            (11, (1, 1, 1), 3), (13, (1, 1, 1), 3),
        ):
            module = (p, (), dims, ())
            self.assertEqual(number(module, module), many)
            self.assertEqual(units(module), plain.many_changes(p, dims))
            self.assertEqual(fellows(module), 1)
            self.assertLessEqual(p ** many, 4096)

    def test_a_small_module_with_too_many_passages(self):
        for p, dims, many in (
            (2, (3, 2), 13), (2, (4,), 16), (2, (5,), 25), (3, (2, 2), 8), (3, (3,), 9), (5, (2, 1, 1), 6), (7, (2, 1), 5),
            (11, (1, 1, 1, 1), 4), (13, (2,), 4), (13, (5,), 25),
        ):
            for arrows in ((), cases.LOOP):
                module = support.zero_module(p, arrows, dims)
                self.assertEqual(number(module, module), many)
                self.assertGreater(p ** many, 4096)
                for function in (units, fellows):
                    with self.assertRaises(TooLarge):
                        function(module)

    def test_the_bound_exactly(self):
        inside, outside = 0, 0
        for module, other in cases.pairs(103, (2, 5, 13)):
            for one in (module, other):
                if one[0] ** support.plain_number(one, one) > 4096:
                    outside += 1
                    for function in (units, fellows):
                        with self.assertRaises(TooLarge):
                            function(one)
                else:
                    inside += 1
                    self.assertGreater(units(one), 0)
        self.assertGreater(min(inside, outside), 40)


class FellowsTest(unittest.TestCase):
    def test_against_all_changes(self):
        for module in tried_modules(104):
            found = {led(module, change) for change in support.all_changes(module[0], module[2])}
            told = fellows(module)
            self.assertIs(type(told), int)
            self.assertEqual(told, len(found), module)

    def test_all_modules_of_some_dims(self):
        # Each module is the fellow of just those that are alike to it.
        for p, arrows, dims in (
            (2, cases.LOOP, (2,)), (2, cases.LINE, (1, 2)), (3, cases.ROUND, (1, 1)), (2, (), (2, 1)), (5, cases.LINE[:1], (1, 1)),
            (2, ((0, 0), (0, 1)), (1, 2)), (3, cases.LOOP * 2, (1,)),
        ):
            modules = support.all_modules(p, arrows, dims)
            for module in modules:
                told = [other for other in modules if alike(module, other)[0] == "alike"]
                self.assertEqual(fellows(module), len(told))

    def test_fellows_times_units(self):
        for module, other in cases.pairs(105, (2, 3, 11)):
            for one in (module, other):
                if one[0] ** number(one, one) <= 300:
                    self.assertEqual(fellows(one) * units(one), plain.many_changes(one[0], one[2]))

    def test_known_numbers(self):
        for p in support.PRIMES:
            self.assertEqual(fellows((p, (), (0,), ())), 1)
            self.assertEqual(fellows(cases.single(p, 1)), 1)
            self.assertEqual(fellows((p, ((0, 1),), (1, 1), (((1,),),))), p - 1)
            self.assertEqual(fellows(cases.companion(p, (0, 0))), p ** 2 - 1)
            self.assertEqual(fellows(cases.companion(p, (0, p - 1))), p * (p + 1))
        self.assertEqual(fellows((5, cases.LINE, (2, 1), (((1, 0),), ((0, 4),)))), 480)
        one = cases.companion(2, (1, 0, 1, 0, 0))
        self.assertEqual(fellows(one) * units(one), plain.many_changes(2, (5,)))


class PromisesTest(unittest.TestCase):
    """Points 1 and 16."""

    def test_alike_modules_have_the_same_numbers(self):
        rng = support.source(106)
        for module in tried_modules(107):
            for other in (cases.moved(rng, module), turned(module)):
                self.assertEqual(units(other), units(module))
                self.assertEqual(fellows(other), fellows(module))

    def test_units_of_sums_of_strangers(self):
        # Without passages to and fro, the units of a sum are pairs of units.
        seen = 0
        for module, other in cases.pairs(108, (2, 3)):
            if number(module, other) == number(other, module) == 0 and sum(module[2]) + sum(other[2]) <= 5:
                whole = add(module, other)
                if module[0] ** number(whole, whole) <= 4096:
                    seen += 1
                    self.assertEqual(units(whole), units(module) * units(other))
        self.assertGreater(seen, 5)

    def test_what_is_handed_in_stays(self):
        module = cases.companion(3, (1, 2))
        kept = deepcopy(module)
        self.assertEqual((units(module), fellows(module)), (units(kept), fellows(kept)))
        self.assertEqual(module, kept)
        wrong = list(module)
        with self.assertRaises(BadModule):
            units(wrong)
        self.assertEqual(wrong, list(kept))


class WrongTest(unittest.TestCase):
    def assert_raised(self, error, *arguments):
        for function in (units, fellows):
            with self.assertRaises(error, msg=repr(arguments)[:200]) as caught:
                function(*arguments)
            self.assertIs(type(caught.exception), error)

    def test_what_is_no_module(self):
        for wrong in support.THINGS:
            self.assert_raised(BadModule, wrong)
        for module in (cases.point(5, 1, 2), cases.companion(2, (1, 1)), (3, (), (1, 0), ())):
            for wrong in support.spoiled(module, module[0]):
                if not reckoning.is_module(wrong):
                    self.assert_raised(BadModule, wrong)

    def test_what_is_too_large_to_be_a_module(self):
        self.assert_raised(BadModule, support.zero_module(2, cases.LOOP, (126,)))
        self.assert_raised(BadModule, support.zero_module(2, cases.LOOP, (125, 1)))

    def test_modules_that_are_not_small(self):
        rng = support.source(109)
        for p in support.PRIMES:
            for dims in ((6,), (125,), (5, 1), (60, 65), (2, 2, 1, 1)):
                self.assert_raised(TooLarge, support.zero_module(p, cases.LOOP, dims))
                self.assert_raised(TooLarge, (p, (), dims, ()))
            # As few passages as there can be, but a size of 6.
            module = cases.companion(p, (1, 0, 0, 1, 0, 1))
            self.assert_raised(TooLarge, module)
            strand = cases.strand(p, cases.CHAIN, (0, 1, 2))
            self.assert_raised(TooLarge, cases.moved(rng, add(strand, strand)))
        one = (2, ((0, 1), (0, 1), (0, 2)), (2, 3, 1), (((1, 0), (0, 1), (0, 0)), ((0, 0), (1, 0), (0, 1)), ((1, 0),)))
        self.assertEqual(support.plain_number(one, one), 1)
        self.assert_raised(TooLarge, one)

    def test_size_5_is_small(self):
        rng = support.source(110)
        for p in support.PRIMES:
            module = support.random_module(rng, p, cases.LOOP * 2, (5,))
            self.assertLessEqual(p ** number(module, module), 4096)
            self.assertEqual(units(module) * fellows(module), plain.many_changes(p, (5,)))


if __name__ == "__main__":
    unittest.main()
