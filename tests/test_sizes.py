"""Modules of a size of up to 125 are ordinary inputs."""

import unittest

from severalmaps.modules import add, check_module, led, turned
from severalmaps.passages import after, identity, image, inverse, is_passage, kernel, mix, number, passages, rest
from tests import support


def copies(module, many):
    """The sum of so many copies of a module."""
    told = module
    for _ in range(many - 1):
        told = add(told, module)
    return told


class LargeTest(unittest.TestCase):
    def test_passages_to_and_from_copies(self):
        rng = support.source(24)
        for p, arrows, dims in ((2, ((0, 1), (1, 1), (1, 0)), (2, 3)), (13, ((0, 0), (0, 0)), (5,)), (7, ((0, 2), (2, 2)), (1, 0, 4))):
            part = support.random_module(rng, p, arrows, dims)
            whole = copies(part, 25)
            self.assertEqual(sum(whole[2]), 125)
            mixed = led(whole, support.random_changes(rng, whole))
            single = number(part, part)
            for one, two in ((part, mixed), (mixed, part)):
                basis = passages(one, two)
                self.assertEqual(len(basis), 25 * single)
                self.assertEqual(number(one, two), 25 * single)
                self.assertEqual(support.rank([support.flat(passage) for passage in basis], p), len(basis))
                for passage in (basis[0], basis[-1]):
                    self.assertTrue(support.fits(one, two, passage))
                few = (basis[0], basis[1], basis[-1])
                told = mix(one, two, few, (1, p - 1, 1))
                self.assertTrue(support.fits(one, two, told))
                self.assertIs(is_passage(one, two, told), True)

    def test_five_dense_arrows(self):
        rng = support.source(25)
        for p in (2, 13):
            small = support.random_module(rng, p, ((0, 0),) * 5, (5,))
            large = support.random_module(rng, p, ((0, 0),) * 5, (125,))
            self.assertIsNone(check_module(large))
            self.assertEqual(turned(turned(large)), large)
            self.assertEqual(number(small, large), 0)
            self.assertEqual(passages(large, small), [])
            self.assertIs(is_passage(large, large, identity(large)), True)
            shifted = (identity(large)[0][1:] + identity(large)[0][:1],)
            self.assertIs(is_passage(large, large, shifted), False)

    def test_changes_and_their_inverses(self):
        rng = support.source(26)
        large = support.random_module(rng, 11, ((0, 1), (1, 0), (0, 0)), (65, 60))
        changes = support.random_changes(rng, large)
        other = led(large, changes)
        self.assertTrue(support.fits(large, other, changes))
        back = inverse(large, other, changes)
        self.assertEqual(after(large, other, large, changes, back), identity(large))
        self.assertEqual(led(other, back), large)
        self.assertIsNone(inverse(large, large, support.zeros(large, large)))

    def test_images_kernels_and_rests(self):
        rng = support.source(27)
        p, arrows = 5, ((0, 1), (1, 0))
        one, two, three = (support.random_module(rng, p, arrows, dims) for dims in ((20, 22), (21, 20), (22, 20)))
        module, other = add(one, two), add(two, three)
        # The part that both share goes over, all else goes to 0.
        passage = tuple(
            tuple((0,) * a + row for row in unit) + ((0,) * (a + b),) * c
            for a, b, c, unit in zip(one[2], two[2], three[2], identity(two))
        )
        self.assertTrue(support.fits(module, other, passage))
        there, back = support.random_changes(rng, module), support.random_changes(rng, other)
        module, from_module = led(module, there), module
        other, from_other = led(other, back), other
        passage = support.one_after_other(from_module, passage, back)
        passage = support.one_after_other(module, inverse(from_module, module, there), passage)
        self.assertTrue(support.fits(module, other, passage))
        middle, onto, into = image(module, other, passage)
        self.assertEqual(middle[2], two[2])
        self.assertTrue(support.fits(module, middle, onto) and support.fits(middle, other, into))
        self.assertEqual(support.one_after_other(module, onto, into), passage)
        inner, inside = kernel(module, other, passage)
        self.assertEqual(inner[2], one[2])
        self.assertTrue(support.fits(inner, module, inside))
        self.assertEqual(support.ranks(inside, p), one[2])
        self.assertEqual(support.one_after_other(inner, inside, passage), support.zeros(inner, other))
        outer, outside = rest(module, other, passage)
        self.assertEqual(outer[2], three[2])
        self.assertTrue(support.fits(other, outer, outside))
        self.assertEqual(support.ranks(outside, p), three[2])
        self.assertEqual(support.one_after_other(module, passage, outside), support.zeros(module, outer))


if __name__ == "__main__":
    unittest.main()
