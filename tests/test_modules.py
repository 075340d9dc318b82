"""Points 2 and 4: what a module is; sums, turned modules, and modules led by changes."""

import unittest

from severalmaps.errors import BadArgument, BadModule, TooLarge
from severalmaps.modules import add, check_module, led, turned
from tests import support

# Each space is at an arrow, so that none can be left away.
GOOD = (3, ((0, 1), (1, 1)), (2, 1), (((1, 0),), ((2,),)))


class CheckModuleTest(unittest.TestCase):
    def assert_bad(self, thing):
        with self.assertRaises(BadModule, msg=repr(thing)[:200]):
            check_module(thing)

    def test_modules_are_let_by(self):
        for module in support.modules(1):
            self.assertIsNone(check_module(module), module)
        self.assertIsNone(check_module(GOOD))
        self.assertIsNone(check_module((2, (), (0,), ())))
        self.assertIsNone(check_module((2, ((0, 0),), (0,), ((),))))
        self.assertIsNone(check_module((2, ((0, 1),), (0, 2), (((), ()),))))
        self.assertIsNone(check_module((2, ((1, 0),), (0, 2), ((),))))

    def test_things_of_other_kinds(self):
        for thing in support.THINGS:
            self.assert_bad(thing)

    def test_one_thing_spoiled_in_a_part(self):
        for at in (1, 3):
            for part in support.spoiled(GOOD[at], 3):
                self.assert_bad(GOOD[:at] + (part,) + GOOD[at + 1:])
        self.assert_bad(list(GOOD))
        self.assert_bad(GOOD[:3])
        self.assert_bad(GOOD + ((),))
        self.assert_bad((GOOD,))

    def test_primes(self):
        for p in range(-20, 200):
            if p in support.PRIMES:
                self.assertIsNone(check_module((p, (), (1,), ())))
            else:
                self.assert_bad((p, (), (1,), ()))
        for p in (None, "2", 2.0, [2], (2,), 10 ** 40 + 2, True):
            self.assert_bad((p, (), (1,), ()))

    def test_arrows(self):
        five = ((0, 0),) * 5
        self.assertIsNone(check_module((2, five, (1,), (((1,),),) * 5)))
        self.assert_bad((2, ((0, 0),) * 6, (1,), (((1,),),) * 6))
        arrows = (
            [(0, 1)], ([0, 1],), ((0,),), ((0, 1, 1),), ((0, 2),), ((2, 0),), ((-1, 0),), ((0, -1),),
            ((False, True),), ((0, True),), ((False, 1),), ((0, 1.0),), ((0, "1"),), (None,), (0, 1),
            ("01",), None, "", {(0, 1): 0}, 7, ((0, None),), ({0: 0, 1: 1},),
        )
        for spoiled in arrows:
            self.assert_bad((2, spoiled, (1, 1), (((1,),),)))
        self.assertIsNone(check_module((2, ((0, 1),), (1, 1), (((1,),),))))

    def test_dims(self):
        for dims in ((0,), (125,), (5,), (6,), (0, 0, 0, 0), (125, 0), (32, 31, 31, 31)):
            self.assertIsNone(check_module((2, (), dims, ())), dims)
        dims = (
            (), (0,) * 5, (1,) * 5, (126,), (125, 1), (32, 31, 31, 32), (-1,), (-1, 3), (True,), (False,),
            (1, True), (1.0,), ("1",), (None,), ([1],), ((1,),), [1], None, 1, "1", {1: 1}, (10 ** 30,),
            (126, -1),
        )
        for spoiled in dims:
            self.assert_bad((2, (), spoiled, ()))

    def test_maps(self):
        maps = (
            (), (((1, 0),),), (((1, 0),), ((2,),), ((2,),)), (((1,), (0,)), ((2,),)), (((1, 0), (1, 0)), ((2,),)),
            (((1, 0, 0),), ((2,),)), (((1,),), ((2,),)), (((),), ((2,),)), ((), ((2,),)), (((1, 0),), ((3,),)),
            (((1, -1),), ((2,),)), (((True, 0),), ((2,),)), (((1, False),), ((2,),)), (([1, 0],), ((2,),)),
            ([(1, 0)], ((2,),)), [((1, 0),), ((2,),)], (((1, 0),), (2,)), (((1, 0),), 2), (((1, 0),), None),
            (((1.0, 0),), ((2,),)), ((("1", 0),), ((2,),)), None, "maps", {}, 0, (("10",), ("2",)),
        )
        for spoiled in maps:
            self.assert_bad(GOOD[:3] + (spoiled,))

    def test_empty_matrices(self):
        for maps in (((),), (((), (), ()),), (((), []),), (((), (0,)),), ((0, 0),), ([],), (None,)):
            self.assert_bad((2, ((0, 1),), (0, 2), maps))
        for maps in ((((),),), (((0, 0),),), ([],), ({},), ("",), (None,)):
            self.assert_bad((2, ((1, 0),), (0, 2), maps))


class AddTest(unittest.TestCase):
    def test_the_blocks(self):
        other = (3, ((0, 1), (1, 1)), (1, 2), (((2,), (1,)), ((1, 2), (0, 1))))
        added = (
            3, ((0, 1), (1, 1)), (3, 3),
            (((1, 0, 0), (0, 0, 2), (0, 0, 1)), ((2, 0, 0), (0, 1, 2), (0, 0, 1))),
        )
        self.assertEqual(add(GOOD, other), added)

    def test_each_number_of_sums(self):
        for one, two in support.close_pairs(2):
            p, arrows, dims, maps = add(one, two)
            self.assertIsNone(check_module((p, arrows, dims, maps)))
            self.assertEqual((p, arrows), one[:2])
            self.assertEqual(dims, tuple(a + b for a, b in zip(one[2], two[2])))
            for (s, t), matrix, first, second in zip(arrows, maps, one[3], two[3]):
                rows, columns = one[2][t], one[2][s]
                for i in range(dims[t]):
                    for j in range(dims[s]):
                        if i < rows and j < columns:
                            self.assertEqual(matrix[i][j], first[i][j])
                        elif i >= rows and j >= columns:
                            self.assertEqual(matrix[i][j], second[i - rows][j - columns])
                        else:
                            self.assertEqual(matrix[i][j], 0)

    def test_too_large(self):
        sizes = ((125, 0, False), (0, 125, False), (60, 65, False), (120, 5, False), (120, 6, True),
                 (125, 1, True), (1, 125, True), (63, 63, True), (125, 125, True), (0, 0, False), (3, 3, False))
        for one, two, large in sizes:
            first = support.zero_module(5, ((0, 1),), (one - one // 2, one // 2))
            second = support.zero_module(5, ((0, 1),), (two // 2, two - two // 2))
            if large:
                with self.assertRaises(TooLarge):
                    add(first, second)
            else:
                self.assertEqual(sum(add(first, second)[2]), one + two)


class TurnedTest(unittest.TestCase):
    def test_an_example(self):
        module = (5, ((0, 1), (0, 1)), (2, 1), (((1, 0),), ((0, 4),)))
        self.assertEqual(turned(module), (5, ((1, 0), (1, 0)), (2, 1), (((1,), (0,)), ((0,), (4,)))))

    def test_each_number(self):
        for module in support.modules(3):
            p, arrows, dims, maps = turned(module)
            self.assertIsNone(check_module((p, arrows, dims, maps)))
            self.assertEqual((p, dims), (module[0], module[2]))
            self.assertEqual(arrows, tuple((t, s) for s, t in module[1]))
            for (s, t), matrix, turned_matrix in zip(module[1], module[3], maps):
                for i in range(dims[t]):
                    for j in range(dims[s]):
                        self.assertEqual(matrix[i][j], turned_matrix[j][i])

    def test_twice_is_the_module(self):
        for module in support.modules(4):
            self.assertEqual(turned(turned(module)), module)


class LedTest(unittest.TestCase):
    def test_an_example(self):
        module = (5, ((0, 0),), (2,), (((1, 1), (0, 1)),))
        self.assertEqual(led(module, (((0, 1), (1, 0)),)), (5, ((0, 0),), (2,), (((1, 0), (1, 1)),)))
        line = (5, ((0, 1),), (1, 1), (((1,),),))
        self.assertEqual(led(line, (((2,),), ((1,),))), (5, ((0, 1),), (1, 1), (((3,),),)))

    def test_changes_are_a_passage(self):
        rng = support.source(5)
        for module in support.modules(5):
            changes = support.random_changes(rng, module)
            other = led(module, changes)
            self.assertIsNone(check_module(other))
            self.assertEqual(other[:3], module[:3])
            self.assertTrue(support.fits(module, other, changes))

    def test_back_by_the_inverses(self):
        # Over so few numbers some power of a change is the identity.
        module = support.random_module(support.source(6), 2, ((0, 1), (1, 0), (1, 1)), (2, 3))
        changes = (((1, 1), (0, 1)), ((0, 1, 0), (0, 0, 1), (1, 0, 0)))
        other = module
        for _ in range(6):
            other = led(other, changes)
        self.assertEqual(other, module)

    def test_the_identity_changes_nothing(self):
        for module in support.modules(7):
            self.assertEqual(led(module, support.ones(module[2])), module)

    def assert_bad_changes(self, module, changes):
        with self.assertRaises(BadArgument, msg=repr(changes)):
            led(module, changes)

    def test_not_invertible(self):
        module = support.zero_module(5, ((0, 1),), (2, 1))
        self.assertEqual(led(module, (((1, 2), (3, 4)), ((1,),))), module)
        for change in (((0, 0), (0, 0)), ((1, 2), (2, 4)), ((1, 0), (1, 0)), ((0, 1), (0, 1)), ((1, 1), (1, 1))):
            self.assert_bad_changes(module, (change, ((1,),)))
        self.assert_bad_changes(module, (((1, 2), (3, 4)), ((0,),)))
        # The determinant is 5.
        self.assert_bad_changes(module, (((2, 1), (1, 3)), ((1,),)))
        self.assertEqual(led(module, (((2, 1), (1, 2)), ((1,),))), module)

    def test_other_things(self):
        module = support.zero_module(3, ((0, 1),), (2, 1))
        changes = (((1, 0), (0, 1)), ((1,),))
        for thing in support.THINGS:
            self.assert_bad_changes(module, thing)
        for thing in support.spoiled(changes, 3):
            self.assert_bad_changes(module, thing)
        empty = support.zero_module(3, ((0, 1),), (0, 1))
        self.assertEqual(led(empty, ((), ((2,),))), empty)
        for change in ([], None, ((),), 0, ((1,),), ""):
            self.assert_bad_changes(empty, (change, ((2,),)))


if __name__ == "__main__":
    unittest.main()
