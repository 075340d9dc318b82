"""Matrices and equations, on which modules and passages stand."""

import unittest

from severalmaps import matrices
from tests import support


class PackedTest(unittest.TestCase):
    def test_digits_are_the_numbers(self):
        for row in ((), (0,), (1, 0, 2), (0, 0, 0), (12,) * 30):
            told = matrices.packed(row)
            self.assertEqual(matrices.digits(told, list(range(len(row))), 13), row)
        self.assertEqual(matrices.digits(matrices.packed((3, 4, 5)), [2, 0], 7), (5, 3))
        self.assertEqual(matrices.packed((1, 0, 2)), 1 + (2 << 2 * matrices.BITS))

    def test_settled_up_to_the_limit(self):
        high = matrices.LIMIT - 1
        for p in support.PRIMES:
            digits = list(range(100)) + list(range(high - 3000, high + 1)) + list(range(0, high, 997))
            digits.extend(k * p + d for k in range(high // p - 500, high // p) for d in (-1, 0, 1))
            mask = matrices.packed([high] * len(digits))
            told = matrices.settled(matrices.packed(digits), p, mask)
            self.assertEqual(told, matrices.packed([digit % p for digit in digits]))


class ProductTest(unittest.TestCase):
    def test_products(self):
        rng = support.source(28)
        for p in support.PRIMES:
            for rows, inner, columns in ((2, 3, 4), (1, 1, 1), (0, 2, 3), (2, 0, 3), (2, 3, 0), (0, 0, 0), (5, 9, 5)):
                one = support.random_matrix(rng, p, rows, inner)
                two = support.random_matrix(rng, p, inner, columns)
                self.assertEqual(matrices.times(one, two, columns, p), support.times(one, two, columns, p))
        highest = ((12,) * 125,) * 125
        self.assertEqual(matrices.times(highest, highest, 125, 13), ((125 * 144 % 13,) * 125,) * 125)

    def test_a_product_over_nothing_is_0(self):
        self.assertEqual(matrices.times(((), ()), (), 3, 5), ((0, 0, 0), (0, 0, 0)))
        self.assertEqual(matrices.times((), ((1, 2),), 2, 5), ())


class EquationsTest(unittest.TestCase):
    def test_all_solutions(self):
        rng = support.source(29)
        for p in support.PRIMES:
            for rows, columns in ((3, 5), (5, 3), (4, 4), (0, 3), (3, 0), (1, 6)):
                for bound in (p, 2):
                    matrix = support.random_matrix(rng, bound, rows, columns)
                    free, into = matrices.null_space(matrix, columns, p)
                    self.assertEqual(len(free), columns - support.rank(matrix, p))
                    self.assertEqual(len(into), columns)
                    self.assertEqual([into[at] for at in free], list(matrices.unit_matrix(len(free))))
                    self.assertFalse(any(support.flat([support.times(matrix, into, len(free), p)])))

    def test_combinations(self):
        rng = support.source(32)
        found = []
        for p in support.PRIMES:
            for many, length in ((3, 5), (5, 3), (4, 4), (0, 3), (3, 0), (1, 1), (2, 6)):
                for bound in (p, 2, 2):
                    vectors = support.random_matrix(rng, bound, many, length)
                    target, = support.random_matrix(rng, bound, 1, length)
                    inside, = support.times(support.random_matrix(rng, p, 1, many), vectors, length, p)
                    for goal in (target, inside, (0,) * length):
                        numbers = matrices.combination(vectors, goal, p)
                        there = support.rank(vectors + (goal,), p) == support.rank(vectors, p)
                        found.append(there)
                        if not there:
                            self.assertIsNone(numbers)
                            continue
                        self.assertTrue(support.has_shape((p, (), (many,), ()), (p, (), (1,), ()), ((numbers,),)))
                        self.assertEqual(support.times((numbers,), vectors, length, p), (goal,))
        self.assertGreater(found.count(False), 20)

    def test_factors(self):
        rng = support.source(30)
        for p in support.PRIMES:
            for rows, columns in ((3, 5), (5, 3), (4, 4), (0, 3), (3, 0)):
                matrix = support.random_matrix(rng, 2, rows, columns)
                pivots, onto, into = matrices.factored(matrix, columns, p)
                self.assertEqual(len(pivots), support.rank(matrix, p))
                self.assertEqual(support.times(into, onto, columns, p), matrix)
                self.assertEqual(len(onto), len(pivots))

    def test_inverses(self):
        rng = support.source(31)
        for p in support.PRIMES:
            for many in range(6):
                matrix = support.random_change(rng, p, many)
                back = matrices.inverted(matrix, p)
                self.assertEqual(support.times(matrix, back, many, p), matrices.unit_matrix(many))
                if many:
                    self.assertIsNone(matrices.inverted(matrix[:-1] + ((0,) * many,), p))
                    self.assertIsNone(matrices.inverted(((0,) * many,) * many, p))


if __name__ == "__main__":
    unittest.main()
