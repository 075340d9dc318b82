"""Point 8: images, kernels and rests of passages."""

import unittest

from severalmaps.errors import BadPassage
from severalmaps.modules import check_module
from severalmaps.passages import identity, image, kernel, rest
from tests import support

SHEAR = (5, ((0, 0),), (2,), (((0, 1), (0, 0)),))


class ImageTest(unittest.TestCase):
    def assert_image(self, module, other, passage):
        told = image(module, other, passage)
        self.assertIs(type(told), tuple)
        middle, onto, into = told
        p = module[0]
        self.assertIsNone(check_module(middle))
        self.assertEqual(middle[:2], module[:2])
        self.assertEqual(middle[2], support.ranks(passage, p))
        self.assertTrue(support.fits(module, middle, onto))
        self.assertTrue(support.fits(middle, other, into))
        self.assertEqual(support.ranks(onto, p), middle[2])
        self.assertEqual(support.ranks(into, p), middle[2])
        self.assertEqual(support.one_after_other(module, onto, into), passage)

    def test_ordinary_ones(self):
        for module, other, passage in support.random_passages(17):
            self.assert_image(module, other, passage)

    def test_edges(self):
        for module in support.modules(18, (2, 11)):
            self.assert_image(module, module, identity(module))
            nothing = support.zero_module(*module[:2], (0,) * len(module[2]))
            self.assert_image(module, nothing, support.zeros(module, nothing))
            self.assert_image(nothing, module, support.zeros(nothing, module))
            self.assert_image(module, module, support.zeros(module, module))
        self.assert_image(SHEAR, SHEAR, SHEAR[3])
        self.assertEqual(image(SHEAR, SHEAR, SHEAR[3])[0], (5, ((0, 0),), (1,), (((0,),),)))


class KernelTest(unittest.TestCase):
    def assert_kernel(self, module, other, passage):
        told = kernel(module, other, passage)
        self.assertIs(type(told), tuple)
        inner, into = told
        p = module[0]
        self.assertIsNone(check_module(inner))
        self.assertEqual(inner[:2], module[:2])
        self.assertTrue(support.fits(inner, module, into))
        self.assertEqual(support.ranks(into, p), inner[2])
        # The dimensions leave no further vector that is led to 0.
        left = tuple(dim - many for dim, many in zip(module[2], support.ranks(passage, p)))
        self.assertEqual(inner[2], left)
        self.assertEqual(support.one_after_other(inner, into, passage), support.zeros(inner, other))

    def test_ordinary_ones(self):
        for module, other, passage in support.random_passages(19):
            self.assert_kernel(module, other, passage)

    def test_edges(self):
        for module in support.modules(20, (3, 13)):
            self.assert_kernel(module, module, identity(module))
            nothing = support.zero_module(*module[:2], (0,) * len(module[2]))
            self.assert_kernel(module, nothing, support.zeros(module, nothing))
            self.assert_kernel(nothing, module, support.zeros(nothing, module))
            self.assert_kernel(module, module, support.zeros(module, module))
        self.assert_kernel(SHEAR, SHEAR, SHEAR[3])
        self.assertEqual(kernel(SHEAR, SHEAR, SHEAR[3])[0], (5, ((0, 0),), (1,), (((0,),),)))


class RestTest(unittest.TestCase):
    def assert_rest(self, module, other, passage):
        told = rest(module, other, passage)
        self.assertIs(type(told), tuple)
        outer, onto = told
        p = module[0]
        self.assertIsNone(check_module(outer))
        self.assertEqual(outer[:2], module[:2])
        self.assertTrue(support.fits(other, outer, onto))
        self.assertEqual(support.ranks(onto, p), outer[2])
        # The dimensions leave no vector that is led to 0 and is none of the image.
        left = tuple(dim - many for dim, many in zip(other[2], support.ranks(passage, p)))
        self.assertEqual(outer[2], left)
        self.assertEqual(support.one_after_other(module, passage, onto), support.zeros(module, outer))

    def test_ordinary_ones(self):
        for module, other, passage in support.random_passages(21):
            self.assert_rest(module, other, passage)

    def test_edges(self):
        for module in support.modules(22, (5, 7)):
            self.assert_rest(module, module, identity(module))
            nothing = support.zero_module(*module[:2], (0,) * len(module[2]))
            self.assert_rest(module, nothing, support.zeros(module, nothing))
            self.assert_rest(nothing, module, support.zeros(nothing, module))
            self.assert_rest(module, module, support.zeros(module, module))
        self.assert_rest(SHEAR, SHEAR, SHEAR[3])
        self.assertEqual(rest(SHEAR, SHEAR, SHEAR[3])[0], (5, ((0, 0),), (1,), (((0,),),)))


class WrongPassageTest(unittest.TestCase):
    def test_what_is_no_passage(self):
        line = (5, ((0, 1),), (1, 1), (((1,),),))
        cut = (5, ((0, 1),), (1, 1), (((0,),),))
        things = list(support.THINGS) + list(support.spoiled(identity(line), 5)) + [(((1,),), ((2,),))]
        for told in (image, kernel, rest):
            for thing in things:
                with self.assertRaises(BadPassage):
                    told(line, line, thing)
            self.assertEqual(told(line, cut, (((1,),), ((0,),)))[0][2], (1, 0) if told is image else (0, 1))
            with self.assertRaises(BadPassage):
                told(cut, line, (((1,),), ((0,),)))


if __name__ == "__main__":
    unittest.main()
