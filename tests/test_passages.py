"""Point 3: passages, their sums and products, their inverses, and bases of them."""

import unittest

from severalmaps.errors import BadArgument, BadPassage, TooLarge
from severalmaps.modules import led
from severalmaps.passages import after, identity, inverse, is_passage, mix, number, passages
from tests import support

# Few enough numbers that all tuples of matrices can be gone through.
TINY = (
    (2, ((0, 0),), (2,), (((1, 1), (0, 1)),)),
    (2, ((0, 1), (0, 1)), (1, 2), (((1,), (0,)), ((1,), (1,)))),
    (2, ((0, 1), (1, 0)), (1, 1), (((1,),), ((0,),))),
    (3, ((0, 1), (1, 1)), (1, 1), (((2,),), ((1,),))),
    (3, (), (1, 0, 1), ()),
    (5, ((0, 0), (0, 0)), (1,), (((2,),), ((3,),))),
)


class IsPassageTest(unittest.TestCase):
    def test_all_tuples_of_matrices(self):
        for module in TINY:
            others = [module, support.zero_module(*module[:3])]
            others.append(support.random_module(support.source(8), *module[:3]))
            for other in others:
                for thing in support.all_tuples(module, other):
                    self.assertIs(is_passage(module, other, thing), support.fits(module, other, thing))

    def test_ordinary_ones(self):
        for module, other, passage in support.random_passages(9):
            self.assertIs(is_passage(module, other, passage), True)
            for v, i, j in ((v, i, j) for v, m in enumerate(passage) for i, r in enumerate(m) for j in range(len(r))):
                row = passage[v][i]
                row = row[:j] + ((row[j] + 1) % module[0],) + row[j + 1:]
                matrix = passage[v][:i] + (row,) + passage[v][i + 1:]
                changed = passage[:v] + (matrix,) + passage[v + 1:]
                self.assertIs(is_passage(module, other, changed), support.fits(module, other, changed))

    def test_the_wrong_direction(self):
        module = (5, ((0, 1),), (1, 2), (((1,), (0,)),))
        other = (5, ((0, 1),), (2, 1), (((1, 0),),))
        passage = (((2,), (3,)), ((2, 4),))
        self.assertIs(is_passage(module, other, passage), True)
        self.assertIs(is_passage(other, module, passage), False)
        line = (5, ((0, 1),), (1, 1), (((1,),),))
        cut = (5, ((0, 1),), (1, 1), (((0,),),))
        self.assertIs(is_passage(line, cut, (((1,),), ((0,),))), True)
        self.assertIs(is_passage(cut, line, (((1,),), ((0,),))), False)
        self.assertIs(is_passage(cut, line, (((0,),), ((1,),))), True)

    def test_other_things(self):
        module = (3, ((0, 1), (1, 1)), (2, 1), (((1, 0),), ((2,),)))
        for thing in support.THINGS:
            self.assertIs(is_passage(module, module, thing), False)
        free = (3, (), (2, 1, 0), ())
        for thing in support.THINGS + ((), ((),), ((), (), ()), [[]] * 3):
            self.assertIs(is_passage(free, free, thing), False)
        for told, passage in ((module, identity(module)), (free, (((1, 2), (0, 1)), ((2,),), ()))):
            self.assertIs(is_passage(told, told, passage), True)
            for thing in support.spoiled(passage, 3):
                self.assertIs(is_passage(told, told, thing), False, thing)

    def test_empty_matrices(self):
        module = (2, ((0, 1),), (0, 2), (((), ()),))
        other = (2, ((0, 1),), (3, 0), ((),))
        self.assertIs(is_passage(module, other, (((), (), ()), ())), True)
        self.assertIs(is_passage(other, module, ((), ((), ()))), True)
        for thing in (((), ()), (((), ()), ()), (((0,), (0,), (0,)), ()), (((), (), ()), ((0, 0),)), ([(), (), ()], ())):
            self.assertIs(is_passage(module, other, thing), False)


class IdentityTest(unittest.TestCase):
    def test_identity_matrices(self):
        for module in support.modules(10):
            self.assertEqual(identity(module), support.ones(module[2]))
        self.assertEqual(identity((2, (), (2, 0, 1), ())), (((1, 0), (0, 1)), (), ((1,),)))


class AfterTest(unittest.TestCase):
    def test_products(self):
        rng = support.source(11)
        for module, other, first in support.random_passages(11):
            for third in (module, other, support.random_module(rng, *module[:3])):
                second = support.random_passage(rng, other, third)
                told = after(module, other, third, first, second)
                self.assertEqual(told, support.one_after_other(module, first, second))
                self.assertTrue(support.fits(module, third, told))

    def test_the_order(self):
        plane = (5, (), (2,), ())
        swap, shear = (((0, 1), (1, 0)),), (((1, 1), (0, 1)),)
        # First the swap, then the shear.
        self.assertEqual(after(plane, plane, plane, swap, shear), (((1, 1), (1, 0)),))
        self.assertEqual(after(plane, plane, plane, shear, swap), (((0, 1), (1, 1)),))

    def test_by_way_of_the_dimension_0(self):
        module, nothing, third = (7, (), (2,), ()), (7, (), (0,), ()), (7, (), (3,), ())
        self.assertEqual(after(module, nothing, third, ((),), (((), (), ()),)), (((0, 0),) * 3,))
        self.assertEqual(after(nothing, module, nothing, (((), ()),), ((),)), ((),))

    def test_what_is_no_passage(self):
        line = (5, ((0, 1),), (1, 1), (((1,),),))
        cut = (5, ((0, 1),), (1, 1), (((0,),),))
        to, fro = (((1,),), ((0,),)), (((0,),), ((1,),))
        self.assertEqual(after(line, cut, line, to, fro), (((0,),), ((0,),)))
        for first, second in ((fro, fro), (to, to), (fro, to)):
            with self.assertRaises(BadPassage):
                after(line, cut, line, first, second)
        for thing in list(support.THINGS) + list(support.spoiled(to, 5)):
            with self.assertRaises(BadPassage):
                after(line, cut, line, thing, fro)
            with self.assertRaises(BadPassage):
                after(line, line, cut, identity(line), thing)


class MixTest(unittest.TestCase):
    def test_sums_of_multiples(self):
        rng = support.source(12)
        for module, other in support.close_pairs(12):
            p = module[0]
            basis = tuple(passages(module, other))
            numbers = tuple(rng.randrange(p) for _ in basis)
            told = mix(module, other, basis, numbers)
            self.assertTrue(support.fits(module, other, told))
            wanted = [0] * len(support.flat(told))
            for passage, many in zip(basis, numbers):
                wanted = [(a + many * b) % p for a, b in zip(wanted, support.flat(passage))]
            self.assertEqual(support.flat(told), wanted)

    def test_examples(self):
        plane = (5, (), (2, 1), ())
        one, two = (((1, 2), (3, 4)), ((1,),)), (((4, 4), (1, 0)), ((3,),))
        self.assertEqual(mix(plane, plane, (one, two), (2, 3)), (((4, 1), (4, 3)), ((1,),)))
        self.assertEqual(mix(plane, plane, (one, one), (1, 4)), (((0, 0), (0, 0)), ((0,),)))
        self.assertEqual(mix(plane, plane, (one,), (1,)), one)
        self.assertEqual(mix(plane, plane, (), ()), (((0, 0), (0, 0)), ((0,),)))

    def test_the_sum_of_none(self):
        for module, other in support.close_pairs(13, (3, 13)):
            self.assertEqual(mix(module, other, (), ()), support.zeros(module, other))

    def test_what_is_no_tuple_of_passages(self):
        line = (5, ((0, 1),), (1, 1), (((1,),),))
        good, bad = identity(line), (((1,),), ((2,),))
        for thing in support.THINGS:
            if thing != ():
                with self.assertRaises(BadPassage, msg=repr(thing)):
                    mix(line, line, thing, (1,))
            with self.assertRaises(BadPassage):
                mix(line, line, (good, thing), (1, 1))
        for thing in support.spoiled(good, 5):
            with self.assertRaises(BadPassage):
                mix(line, line, (thing,), (1,))
        for thing in ([good], good, (bad,), (good, bad), (bad, good), {good: good}, (good, [good])):
            with self.assertRaises(BadPassage):
                mix(line, line, thing, (1, 1))

    def test_what_are_no_numbers(self):
        line = (5, ((0, 1),), (1, 1), (((1,),),))
        good = identity(line)
        numbers = (
            (), (1,), (1, 2, 3), (1, 5), (5, 1), (1, -1), (-1, 1), (True, 1), (1, False), (1, 6), (1, 10 ** 30),
            [1, 2], None, 7, "12", {1: 1, 2: 2}, (1, None), (1, "2"), (1, 2.0), (1, (2,)), ((1, 2),),
        )
        for told in numbers:
            with self.assertRaises(BadArgument, msg=repr(told)):
                mix(line, line, (good, good), told)
        for told in ((1,), (0,), [], None, 0, False, {}, ""):
            with self.assertRaises(BadArgument, msg=repr(told)):
                mix(line, line, (), told)
        self.assertEqual(mix(line, line, (good, good), (4, 4)), (((3,),), ((3,),)))


class InverseTest(unittest.TestCase):
    def test_both_ways(self):
        rng = support.source(14)
        for module in support.modules(14):
            changes = support.random_changes(rng, module)
            other = led(module, changes)
            back = inverse(module, other, changes)
            self.assertTrue(support.fits(other, module, back))
            self.assertEqual(support.one_after_other(module, changes, back), identity(module))
            self.assertEqual(support.one_after_other(other, back, changes), identity(other))
            self.assertEqual(led(other, back), module)
            self.assertEqual(inverse(other, module, back), changes)

    def test_exactly_if_invertible(self):
        counts = {True: 0, False: 0}
        for module, other, passage in support.random_passages(15):
            p = module[0]
            whole = support.ranks(passage, p) == module[2] == other[2]
            counts[whole] += 1
            back = inverse(module, other, passage)
            self.assertEqual(back is not None, whole)
            if whole:
                self.assertEqual(support.one_after_other(module, passage, back), identity(module))
        self.assertTrue(counts[True] > 50 and counts[False] > 50, counts)

    def test_examples(self):
        plane, line = (5, (), (2, 1), ()), (5, (), (1, 2), ())
        self.assertEqual(inverse(plane, plane, (((1, 2), (3, 4)), ((2,),))), (((3, 1), (4, 2)), ((3,),)))
        self.assertIsNone(inverse(plane, plane, (((1, 2), (3, 4)), ((0,),))))
        self.assertIsNone(inverse(plane, plane, (((1, 2), (2, 4)), ((1,),))))
        self.assertIsNone(inverse(plane, line, (((1, 0),), ((1,), (0,)))))
        self.assertIsNone(inverse(line, plane, (((1,), (0,)), ((1, 0),))))
        nothing = (5, (), (0, 0), ())
        self.assertEqual(inverse(nothing, nothing, ((), ())), ((), ()))
        self.assertIsNone(inverse(nothing, plane, (((), ()), ((),))))
        self.assertIsNone(inverse(plane, nothing, ((), ())))

    def test_what_is_no_passage(self):
        line = (5, ((0, 1),), (1, 1), (((1,),),))
        for thing in list(support.THINGS) + list(support.spoiled(identity(line), 5)) + [(((1,),), ((2,),))]:
            with self.assertRaises(BadPassage):
                inverse(line, line, thing)


class BasisTest(unittest.TestCase):
    def assert_basis(self, module, other):
        p = module[0]
        basis = passages(module, other)
        self.assertIs(type(basis), list)
        for passage in basis:
            self.assertTrue(support.fits(module, other, passage))
        self.assertEqual(support.rank([support.flat(passage) for passage in basis], p), len(basis))
        many = number(module, other)
        self.assertIs(type(many), int)
        self.assertEqual(len(basis), many)
        return many

    def test_as_many_as_the_conditions_leave(self):
        for module, other in support.close_pairs(16):
            self.assertEqual(self.assert_basis(module, other), support.plain_number(module, other))

    def test_all_passages_are_sums(self):
        for module in TINY:
            for other in (module, support.zero_module(*module[:3])):
                found = [x for x in support.all_tuples(module, other) if support.fits(module, other, x)]
                self.assertEqual(module[0] ** self.assert_basis(module, other), len(found))

    def test_examples(self):
        line = (7, ((0, 1),), (1, 1), (((1,),),))
        cut = (7, ((0, 1),), (1, 1), (((0,),),))
        self.assertEqual([number(line, line), number(line, cut)], [1, 1])
        self.assertEqual([number(cut, line), number(cut, cut)], [1, 2])
        # Two passages of a sum for each one of a part.
        free = (7, (), (2, 3, 0), ())
        self.assertEqual(number(free, free), 13)
        # One number for each power of a single block.
        block = (7, ((0, 0),), (4,), (((3, 1, 0, 0), (0, 3, 1, 0), (0, 0, 3, 1), (0, 0, 0, 3)),))
        self.assertEqual(number(block, block), 4)
        self.assertEqual(number(block, (7, ((0, 0),), (1,), (((3,),),))), 1)
        self.assertEqual(number(block, (7, ((0, 0),), (1,), (((2,),),))), 0)
        self.assertEqual(passages(block, (7, ((0, 0),), (1,), (((2,),),))), [])

    def test_the_dimension_0(self):
        module = (3, ((0, 1),), (0, 2), (((), ()),))
        other = (3, ((0, 1),), (3, 0), ((),))
        nothing = (3, ((0, 1),), (0, 0), ((),))
        for one, two in ((module, other), (other, module), (nothing, nothing), (nothing, other), (module, nothing)):
            self.assertEqual(passages(one, two), [])
            self.assertEqual(number(one, two), 0)
        self.assertEqual(number(module, module), 4)

    def test_too_large(self):
        for one, two in ((6, 6), (6, 7), (125, 6), (6, 125), (125, 125)):
            first, second = support.zero_module(3, ((0, 1),), (one, 0)), support.zero_module(3, ((0, 1),), (1, two - 1))
            for told in (passages, number):
                with self.assertRaises(TooLarge):
                    told(first, second)
        for one, two in ((5, 6), (6, 5), (5, 5), (0, 125), (125, 0), (1, 125), (125, 5), (5, 125)):
            first, second = support.zero_module(3, (), (one, 0)), support.zero_module(3, (), (two, 0))
            self.assertEqual(number(first, second), one * two)
            self.assertEqual(len(passages(first, second)), one * two)


if __name__ == "__main__":
    unittest.main()
