"""Point 12: lists, pencils and systems, and when two of them are alike; and point 16 of them."""

import unittest
from copy import deepcopy
from itertools import product

from severalmaps.alike import alike, is_likeness
from severalmaps.errors import BadArgument, TooLarge
from severalmaps.kinds import list_module, pencil_module, same_lists, same_pencils, same_systems, system_module
from severalmaps.matrices import inverted
from severalmaps.modules import check_module, led
from tests import cases, plain, support


def matrices_of(rng, p, rows, columns, many):
    return tuple(support.random_matrix(rng, p, rows, columns) for _ in range(many))


def turned_number(rng, p, matrices):
    """The matrices with one number turned to another one, or themselves if there is none."""
    places = [(k, i, j) for k, matrix in enumerate(matrices) for i, row in enumerate(matrix) for j in range(len(row))]
    if not places:
        return matrices
    place = rng.choice(places)
    more = rng.randrange(1, p)
    return tuple(
        tuple(
            tuple((number + more * ((k, i, j) == place)) % p for j, number in enumerate(row))
            for i, row in enumerate(matrix)
        )
        for k, matrix in enumerate(matrices)
    )


def moved_list(rng, p, n, matrices):
    """The list in a drawn other basis."""
    there = support.random_change(rng, p, n)
    back = inverted(there, p)
    return tuple(support.times(support.times(there, matrix, n, p), back, n, p) for matrix in matrices)


def moved_pencil(rng, p, rows, columns, matrices):
    """The pencil in drawn other bases."""
    there, behind = support.random_change(rng, p, rows), support.random_change(rng, p, columns)
    return tuple(support.times(support.times(there, matrix, columns, p), behind, columns, p) for matrix in matrices)


def moved_system(rng, p, n, matrices):
    """The system in a drawn other basis, with other columns that span the same."""
    there = support.random_change(rng, p, n)
    told = []
    for matrix in matrices:
        columns = len(matrix[0]) if matrix else 0
        behind = support.random_change(rng, p, columns)
        mixed = support.times(support.times(there, matrix, columns, p), behind, columns, p)
        more = support.random_matrix(rng, p, columns, rng.randrange(3))
        extra = support.times(mixed, more, len(more[0]) if more else 0, p)
        told.append(tuple(row + line for row, line in zip(mixed, extra)))
    return tuple(told)


def drawn_lists(seed, primes=support.PRIMES):
    """Lists of all sizes and numbers of matrices, many of them with few numbers but 0."""
    rng = support.source(seed)
    told = []
    for p, n, many in product(primes, range(6), range(6)):
        matrices = matrices_of(rng, p, n, n, many)
        if rng.randrange(2):
            rare = tuple(tuple(tuple(a * (rng.randrange(3) == 0) for a in row) for row in matrix) for matrix in matrices)
            matrices = rare
        told.append((p, n, matrices))
    return told


def drawn_pencils(seed, primes=support.PRIMES):
    """Pencils of all numbers of rows, columns and matrices."""
    rng = support.source(seed)
    told = []
    for p, rows, columns, many in product(primes, range(6), range(6), range(6)):
        if rows + columns <= 5 and (rows * columns or many in (0, 2, 5)):
            told.append((p, rows, columns, matrices_of(rng, p, rows, columns, many)))
    return told


def thin_matrix(rng, p, n, rank, columns):
    """A matrix whose columns span at most this many dimensions; without rows the empty tuple."""
    one, two = support.random_matrix(rng, p, n, rank), support.random_matrix(rng, p, rank, columns)
    return support.times(one, two, columns, p)


def drawn_systems(seed, primes=support.PRIMES):
    """Systems whose modules are small, of all dimensions and numbers of subspaces."""
    rng = support.source(seed)
    told = []
    for p, n, many in product(primes, range(6), range(4)):
        for _ in range(3):
            ranks = [rng.randrange(n + 1) for _ in range(many)]
            while n + sum(ranks) > 5:
                ranks[rng.randrange(many)] = 0
            matrices = tuple(thin_matrix(rng, p, n, rank, rng.randrange(5)) for rank in ranks)
            told.append((p, n, matrices))
    return told


class ModulesTest(unittest.TestCase):
    def test_lists(self):
        for p, n, matrices in drawn_lists(80):
            told = list_module(p, n, matrices)
            check_module(told)
            self.assertEqual(told, plain.list_of(p, n, matrices))
            self.assertTrue(support.is_plain(told))
        self.assertEqual(list_module(7, 0, ()), (7, (), (0,), ()))
        self.assertEqual(list_module(7, 0, ((), ())), (7, ((0, 0), (0, 0)), (0,), ((), ())))
        self.assertEqual(list_module(7, 2, (((1, 2), (3, 4)),)), (7, ((0, 0),), (2,), (((1, 2), (3, 4)),)))

    def test_pencils(self):
        for p, rows, columns, matrices in drawn_pencils(81):
            told = pencil_module(p, rows, columns, matrices)
            check_module(told)
            self.assertEqual(told, plain.pencil_of(p, rows, columns, matrices))
            self.assertTrue(support.is_plain(told))
        self.assertEqual(pencil_module(3, 1, 2, (((1, 2),),)), (3, ((0, 1),), (2, 1), (((1, 2),),)))
        self.assertEqual(pencil_module(3, 2, 0, (((), ()),)), (3, ((0, 1),), (0, 2), (((), ()),)))
        self.assertEqual(pencil_module(3, 0, 2, ((), ())), (3, ((0, 1), (0, 1)), (2, 0), ((), ())))
        self.assertEqual(pencil_module(3, 0, 5, ()), (3, (), (5, 0), ()))

    def test_systems(self):
        rng = support.source(82)
        for p, n, many in product(support.PRIMES, range(6), range(4)):
            for columns in (0, 1, 3, 8):
                matrices = tuple(thin_matrix(rng, p, n, rng.randrange(n + 1), columns) for _ in range(many))
                told = system_module(p, n, matrices)
                check_module(told)
                self.assertEqual(told, plain.system_of(p, n, matrices))
                self.assertTrue(support.is_plain(told))

    def test_the_columns_of_a_system(self):
        self.assertEqual(system_module(5, 2, ()), (5, (), (2,), ()))
        self.assertEqual(system_module(5, 0, ((), ())), (5, ((1, 0), (2, 0)), (0, 0, 0), ((), ())))
        self.assertEqual(system_module(5, 2, (((), ()),)), (5, ((1, 0),), (2, 0), (((), ()),)))
        # The first column is 0, the third one twice the second one.
        one = ((0, 1, 2, 3, 1), (0, 2, 4, 0, 1))
        self.assertEqual(system_module(5, 2, (one,)), (5, ((1, 0),), (2, 2), (((1, 3), (2, 0)),)))
        # Of the columns that can be taken, the foremost ones are, in their order.
        two = ((0, 0, 0), (2, 1, 4), (0, 1, 1))
        self.assertEqual(system_module(5, 3, (two,)), (5, ((1, 0),), (3, 2), (((0, 0), (2, 1), (0, 1)),)))
        self.assertEqual(system_module(2, 1, (((0, 0),), ((1, 1),), ((0, 1),)))[2:], ((1, 0, 1, 1), (((),), ((1,),), ((1,),))))

    def test_many_columns(self):
        rng = support.source(83)
        for n, rank in ((5, 4), (5, 5), (3, 1), (2, 0)):
            matrix = thin_matrix(rng, 13, n, rank, 500)
            self.assertEqual(system_module(13, n, (matrix,) * 3), plain.system_of(13, n, (matrix,) * 3))
        wide = tuple((0,) * 400 + row for row in support.ones((5,))[0])
        self.assertEqual(system_module(13, 5, (wide,))[3], support.ones((5,)))


class SameListsTest(unittest.TestCase):
    def assert_told(self, p, n, matrices, others):
        result = same_lists(p, n, matrices, others)
        self.assertTrue(support.is_plain(result))
        self.assertTrue(plain.right_lists(p, n, matrices, others, result), (p, n, matrices, others, result))
        return result[0]

    def test_drawn_lists(self):
        rng = support.source(84)
        words = []
        for p, n, matrices in drawn_lists(85):
            other = moved_list(rng, p, n, matrices)
            self.assertEqual(self.assert_told(p, n, matrices, other), "alike")
            words.append(self.assert_told(p, n, matrices, turned_number(rng, p, other)))
            words.append(self.assert_told(p, n, turned_number(rng, p, matrices), other))
        self.assertGreater(words.count("alike"), 50)
        self.assertGreater(words.count("apart"), 200)

    def test_all_small_lists(self):
        for p, n, many in ((2, 1, 2), (2, 2, 1), (3, 1, 2), (2, 0, 2), (13, 1, 1)):
            found = list(product(support.all_matrices(p, n, n), repeat=many))
            changes = support.all_squares(p, n)
            for matrices, others in product(found, found):
                there_is_one = any(plain.leads_list(p, n, change, matrices, others) for change in changes)
                self.assertEqual(self.assert_told(p, n, matrices, others), "alike" if there_is_one else "apart")

    def test_known_lists(self):
        rng = support.source(86)
        for p in support.PRIMES:
            step, zero = ((0, 1), (0, 0)), ((0, 0), (0, 0))
            self.assertEqual(self.assert_told(p, 2, (step,), (((0, 0), (1, 0)),)), "alike")
            self.assertEqual(self.assert_told(p, 2, (step,), (zero,)), "apart")
            # Each matrix alone is alike to the one at its place; together they are not.
            self.assertEqual(self.assert_told(p, 2, (step, step), (step, ((0, 0), (1, 0)))), "apart")
            self.assertEqual(self.assert_told(p, 2, (step, zero), (zero, step)), "apart")
            for numbers in cases.without_roots(p, 3)[:2]:
                matrix = cases.companion(p, numbers)[3]
                turned = (tuple(zip(*matrix[0])),)
                self.assertEqual(self.assert_told(p, 3, matrix, turned), "alike")
                self.assertEqual(self.assert_told(p, 3, matrix, moved_list(rng, p, 3, turned)), "alike")

    def test_nothing_to_lead(self):
        for p in support.PRIMES:
            self.assertEqual(same_lists(p, 0, (), ()), ("alike", ()))
            self.assertEqual(same_lists(p, 0, ((),) * 5, ((),) * 5), ("alike", ()))
            for n in range(6):
                self.assertEqual(self.assert_told(p, n, (), ()), "alike")


class SamePencilsTest(unittest.TestCase):
    def assert_told(self, p, rows, columns, matrices, others):
        result = same_pencils(p, rows, columns, matrices, others)
        self.assertTrue(support.is_plain(result))
        self.assertTrue(
            plain.right_pencils(p, rows, columns, matrices, others, result), (p, rows, columns, matrices, others, result)
        )
        return result[0]

    def test_drawn_pencils(self):
        rng = support.source(87)
        words = []
        for p, rows, columns, matrices in drawn_pencils(88):
            other = moved_pencil(rng, p, rows, columns, matrices)
            self.assertEqual(self.assert_told(p, rows, columns, matrices, other), "alike")
            words.append(self.assert_told(p, rows, columns, matrices, turned_number(rng, p, other)))
        self.assertGreater(words.count("alike"), 50)
        self.assertGreater(words.count("apart"), 100)

    def test_all_small_pencils(self):
        for p, rows, columns, many in ((2, 1, 2, 1), (2, 2, 1, 2), (2, 2, 2, 1), (3, 1, 1, 2), (2, 0, 2, 2), (2, 2, 0, 1)):
            found = list(product(support.all_matrices(p, rows, columns), repeat=many))
            changes = list(product(support.all_squares(p, rows), support.all_squares(p, columns)))
            for matrices, others in product(found, found):
                there_is_one = any(plain.leads_pencil(p, columns, *pair, matrices, others) for pair in changes)
                self.assertEqual(
                    self.assert_told(p, rows, columns, matrices, others), "alike" if there_is_one else "apart"
                )

    def test_known_pencils(self):
        for p in support.PRIMES:
            unit, step, back = ((1, 0), (0, 1)), ((0, 1), (0, 0)), ((0, 0), (1, 0))
            self.assertEqual(self.assert_told(p, 2, 2, (unit, step), (unit, back)), "alike")
            self.assertEqual(self.assert_told(p, 2, 2, (step, back), (back, step)), "alike")
            self.assertEqual(self.assert_told(p, 2, 2, (unit, step), (step, unit)), "apart")
            self.assertEqual(self.assert_told(p, 2, 2, (unit,), (step,)), "apart")
            wide, other = (((1, 0, 0), (0, 1, 0)), ((0, 1, 0), (0, 0, 1))), (((1, 0, 0), (0, 1, 0)), ((0, 0, 1), (0, 1, 0)))
            self.assertEqual(self.assert_told(p, 2, 3, wide, other), "apart")
            moved = tuple(tuple(row[::-1] for row in matrix[::-1]) for matrix in wide)
            self.assertEqual(self.assert_told(p, 2, 3, wide, moved), "alike")

    def test_without_rows_or_columns(self):
        for p in support.PRIMES:
            self.assertEqual(same_pencils(p, 0, 0, ((),), ((),)), ("alike", (), ()))
            for many in range(6):
                self.assertEqual(self.assert_told(p, 0, many, ((),) * 5, ((),) * 5), "alike")
                self.assertEqual(self.assert_told(p, many, 0, (((),) * many,), (((),) * many,)), "alike")
                self.assertEqual(self.assert_told(p, many, 5 - many, (), ()), "alike")
            self.assertEqual([len(table) for table in same_pencils(p, 3, 2, (), ())[1:]], [3, 2])


class SameSystemsTest(unittest.TestCase):
    def assert_told(self, p, n, matrices, others):
        result = same_systems(p, n, matrices, others)
        self.assertTrue(support.is_plain(result))
        self.assertTrue(plain.right_systems(p, n, matrices, others, result), (p, n, matrices, others, result))
        return result[0]

    def test_drawn_systems(self):
        rng = support.source(89)
        words = []
        for p, n, matrices in drawn_systems(90):
            other = moved_system(rng, p, n, matrices)
            self.assertEqual(self.assert_told(p, n, matrices, other), "alike")
            self.assertEqual(self.assert_told(p, n, other, matrices), "alike")
            turned = turned_number(rng, p, other)
            if sum(plain.system_of(p, n, turned)[2]) <= 5:
                words.append(self.assert_told(p, n, matrices, turned))
        self.assertGreater(words.count("alike"), 50)
        self.assertGreater(words.count("apart"), 50)

    def test_all_small_systems(self):
        for p, n, columns, many in ((2, 2, 1, 2), (2, 2, 2, 1), (3, 1, 1, 2), (2, 1, 1, 3), (2, 3, 1, 2), (2, 0, 0, 3), (3, 2, 1, 2)):
            found = list(product(support.all_matrices(p, n, columns), repeat=many))
            changes = support.all_squares(p, n)
            for matrices, others in list(product(found, found))[::len(found) // 5 or 1]:
                there_is_one = any(plain.leads_system(p, n, change, matrices, others) for change in changes)
                self.assertEqual(self.assert_told(p, n, matrices, others), "alike" if there_is_one else "apart")

    def test_known_systems(self):
        for p in support.PRIMES:
            first, second, both = ((1,), (0,)), ((0,), (1,)), ((1,), (1,))
            # Three unlike lines in a plane can be led to each other, and two equal ones cannot.
            self.assertEqual(self.assert_told(p, 2, (first, second, both), (both, first, second)), "alike")
            self.assertEqual(self.assert_told(p, 2, (first, second, both), (both, first, first)), "apart")
            self.assertEqual(self.assert_told(p, 2, (first, first, both), (first, both, both)), "apart")
            self.assertEqual(self.assert_told(p, 2, (first, first), (both, both)), "alike")
            self.assertEqual(self.assert_told(p, 2, (first, ((), ())), (((), ()), first)), "apart")

    def test_columns_may_differ(self):
        for p in support.PRIMES:
            line, wide, none = ((1,), (1,)), ((0, p - 1, 1), (0, p - 1, 1)), ((), ())
            self.assertEqual(self.assert_told(p, 2, (line, none), (wide, ((0,), (0,)))), "alike")
            self.assertEqual(self.assert_told(p, 2, (wide,), (line,)), "alike")
            self.assertEqual(self.assert_told(p, 2, (line,), (none,)), "apart")
            self.assertEqual(self.assert_told(p, 2, (line,), (((1, 0), (0, 1)),)), "apart")
            self.assertEqual(self.assert_told(p, 1, (((1, 1),), ((0,),)), (((p - 1,),), ((),))), "alike")

    def test_nothing_to_lead(self):
        for p in support.PRIMES:
            self.assertEqual(same_systems(p, 0, (), ()), ("alike", ()))
            self.assertEqual(same_systems(p, 0, ((),) * 3, ((),) * 3), ("alike", ()))
            for n in range(6):
                self.assertEqual(self.assert_told(p, n, (), ()), "alike")
                self.assertEqual(self.assert_told(p, n, (((),) * n,) * 3, (((),) * n,) * 3), "alike")

    def test_too_large(self):
        rng = support.source(91)
        seen = {True: 0, False: 0}
        for p, n, many in product((2, 7), range(6), range(4)):
            for _ in range(12):
                one, two = (
                    tuple(thin_matrix(rng, p, n, rng.randrange(n + 1), rng.randrange(4)) for _ in range(many)) for _ in range(2)
                )
                fits = all(sum(plain.system_of(p, n, system)[2]) <= 5 for system in (one, two))
                seen[fits] += 1
                if fits:
                    self.assert_told(p, n, one, two)
                else:
                    with self.assertRaises(TooLarge):
                        same_systems(p, n, one, two)
        self.assertGreater(min(seen.values()), 100)

    def test_both_sides_of_the_bound(self):
        plane, wide = ((1, 0), (0, 1), (0, 0)), ((1, 0, 0), (0, 1, 0), (0, 0, 1))
        thick = ((1, 1, 0, 1), (0, 2, 1, 1), (0, 0, 0, 0))
        self.assertEqual(self.assert_told(5, 3, (plane,), (thick,)), "alike")
        for one, two in ((wide, wide), (wide, plane), (plane, wide)):
            with self.assertRaises(TooLarge):
                same_systems(5, 3, (one,), (two,))
        full = support.ones((5,))[0]
        self.assertEqual(system_module(5, 5, (full,) * 3)[2], (5, 5, 5, 5))
        with self.assertRaises(TooLarge):
            same_systems(5, 5, (full,) * 3, (full,) * 3)


class WrongTest(unittest.TestCase):
    def assert_bad(self, function, *arguments):
        with self.assertRaises(BadArgument, msg=(function, arguments)) as caught:
            function(*arguments)
        self.assertIs(type(caught.exception), BadArgument)

    def assert_bad_matrices(self, numbers, one, two, right, wrong):
        """Functions of one thing and of two take no wrong matrices, beside these numbers."""
        self.assert_bad(one, *numbers, wrong)
        for pair in ((right, wrong), (wrong, right), (wrong, wrong)):
            self.assert_bad(two, *numbers, *pair)

    def test_primes(self):
        for wrong in (0, 1, 4, 6, 9, 15, 17, -2, -7, True, False, 10 ** 30):
            self.assert_bad(list_module, wrong, 0, ())
            self.assert_bad(same_lists, wrong, 0, (), ())
            self.assert_bad(pencil_module, wrong, 0, 0, ())
            self.assert_bad(same_pencils, wrong, 0, 0, (), ())
            self.assert_bad(system_module, wrong, 0, ())
            self.assert_bad(same_systems, wrong, 0, (), ())

    def test_numbers_out_of_their_bounds(self):
        for wrong in (-1, 6, 125, True, False, 10 ** 30):
            for function in (list_module, system_module):
                self.assert_bad(function, 3, wrong, ())
            for function in (same_lists, same_systems):
                self.assert_bad(function, 3, wrong, (), ())
            for pair in ((wrong, 0), (0, wrong), (wrong, wrong)):
                self.assert_bad(pencil_module, 3, *pair, ())
                self.assert_bad(same_pencils, 3, *pair, (), ())
        for rows in range(6):
            for columns in range(6):
                if rows + columns > 5:
                    self.assert_bad(pencil_module, 3, rows, columns, ())
                    self.assert_bad(same_pencils, 3, rows, columns, (), ())
        for n in range(6):
            self.assertEqual(list_module(3, n, ())[2], (n,))
            self.assertEqual(system_module(3, n, ())[2], (n,))
            self.assertEqual(pencil_module(3, n, 5 - n, ())[2], (5 - n, n))
        self.assert_bad(pencil_module, 3, 6, -1, ())
        self.assert_bad(pencil_module, 3, -1, 6, ())

    def test_one_thing_spoiled(self):
        square = (((1, 2), (0, 1)), ((2, 2), (1, 0)))
        for wrong in support.spoiled(square, 3):
            if not self.are_matrices(wrong, 2, 2):
                self.assert_bad_matrices((3, 2), list_module, same_lists, square, wrong)
                self.assert_bad_matrices((3, 2), system_module, same_systems, square, wrong)
        tall = (((1,), (2,)), ((0,), (1,)))
        for wrong in support.spoiled(tall, 3):
            if not self.are_matrices(wrong, 2, 1):
                self.assert_bad_matrices((3, 2, 1), pencil_module, same_pencils, tall, wrong)

    def are_matrices(self, wrong, rows, columns):
        """Whether these are still matrices of this form, but in another number."""
        one, two = (3, (), (columns,), ()), (3, (), (rows,), ())
        return type(wrong) is tuple and all(support.has_shape(one, two, (matrix,)) for matrix in wrong)

    def test_too_many_matrices(self):
        self.assert_bad_matrices((3, 1), list_module, same_lists, (((1,),),) * 5, (((1,),),) * 6)
        self.assert_bad_matrices((3, 0), list_module, same_lists, ((),) * 5, ((),) * 6)
        self.assert_bad_matrices((3, 1, 1), pencil_module, same_pencils, (((1,),),) * 5, (((1,),),) * 6)
        self.assert_bad_matrices((3, 1), system_module, same_systems, (((1,),),) * 3, (((1,),),) * 4)
        self.assert_bad_matrices((3, 0), system_module, same_systems, ((),) * 3, ((),) * 4)

    def test_no_matrices_of_these_numbers(self):
        for wrong in ((((1,),),), (((),),), ((), ((1,),)), (((1, 0),),)):
            self.assert_bad_matrices((3, 0), list_module, same_lists, (), wrong)
            self.assert_bad_matrices((3, 0), system_module, same_systems, (), wrong)
            self.assert_bad_matrices((3, 0, 0), pencil_module, same_pencils, (), wrong)
        for wrong in (((),), (((1, 0),),), (((1,), (0,)),), (((3,),),), (((-1,),),), (((True,),),), (((1,), (0, 1)),)):
            self.assert_bad_matrices((3, 1), list_module, same_lists, (((1,),),), wrong)
        # Of a system all rows of a matrix have the same columns, as many as they like.
        for wrong in (((),), (((1,), (0, 1)),), (((), (1,)),), (((1,), ()),), (((1,),),), (((1,), (1,), (1,)),), (((1, 3), (1, 0)),)):
            self.assert_bad_matrices((3, 2), system_module, same_systems, (((), ()),), wrong)
        # Rows and columns exchanged.
        self.assert_bad_matrices((3, 1, 2), pencil_module, same_pencils, (((1, 0),),), (((1,), (0,)),))
        self.assert_bad_matrices((3, 0, 2), pencil_module, same_pencils, ((),), (((), ()),))
        self.assert_bad_matrices((3, 2, 0), pencil_module, same_pencils, (((), ()),), ((),))

    def test_no_matrices_at_all(self):
        for wrong in support.THINGS:
            if wrong != () and wrong != ((),):
                self.assert_bad_matrices((3, 0), list_module, same_lists, (), wrong)
                self.assert_bad_matrices((3, 0, 0), pencil_module, same_pencils, (), wrong)
                self.assert_bad_matrices((3, 0), system_module, same_systems, (), wrong)

    def test_unlike_numbers_of_matrices(self):
        for few, many in product(range(6), range(6)):
            if few != many:
                self.assert_bad(same_lists, 3, 1, (((1,),),) * few, (((1,),),) * many)
                self.assert_bad(same_lists, 3, 0, ((),) * few, ((),) * many)
                self.assert_bad(same_pencils, 3, 1, 1, (((1,),),) * few, (((1,),),) * many)
                if max(few, many) <= 3:
                    self.assert_bad(same_systems, 3, 1, (((0,),),) * few, (((0,),),) * many)
                    self.assert_bad(same_systems, 3, 0, ((),) * few, ((),) * many)

    def test_too_large_comes_last(self):
        full = support.ones((4,))[0]
        with self.assertRaises(TooLarge):
            same_systems(3, 4, (full,), (full,))
        self.assert_bad(same_systems, 4, 4, (full,), (full,))
        self.assert_bad(same_systems, 3, 6, (full,), (full,))
        self.assert_bad(same_systems, 3, 4, (full,), (full, full))
        self.assert_bad(same_systems, 3, 4, (), (full,))
        self.assert_bad(same_systems, 3, 4, (full,), ((),))
        self.assert_bad(same_systems, 3, 4, ([full],), (full,))


class PromisesTest(unittest.TestCase):
    """Points 1 and 16."""

    def test_the_results_go_with_those_of_alike(self):
        rng = support.source(92)
        for p, n, matrices in drawn_lists(93, (2, 5)):
            for others in (moved_list(rng, p, n, matrices), turned_number(rng, p, matrices)):
                module, other = list_module(p, n, matrices), list_module(p, n, others)
                result = same_lists(p, n, matrices, others)
                self.assertEqual(result[0], alike(module, other)[0])
                if result[0] == "alike":
                    self.assertEqual(led(module, result[1:]), other)
                else:
                    self.assertIs(is_likeness(module, other, result), True)
        for p, rows, columns, matrices in drawn_pencils(94, (2, 13)):
            for others in (moved_pencil(rng, p, rows, columns, matrices), turned_number(rng, p, matrices)):
                module, other = pencil_module(p, rows, columns, matrices), pencil_module(p, rows, columns, others)
                result = same_pencils(p, rows, columns, matrices, others)
                self.assertEqual(result[0], alike(module, other)[0])
                if result[0] == "alike":
                    self.assertEqual(led(module, (result[2], result[1])), other)
                else:
                    self.assertIs(is_likeness(module, other, result), True)
        for p, n, matrices in drawn_systems(95, (3, 11)):
            others = moved_system(rng, p, n, matrices)
            module, other = system_module(p, n, matrices), system_module(p, n, others)
            self.assertEqual(alike(module, other)[0], "alike")

    def test_both_orders_tell_the_same(self):
        rng = support.source(96)
        for p, n, matrices in drawn_lists(97, (2, 7)):
            others = turned_number(rng, p, moved_list(rng, p, n, matrices))
            self.assertEqual(same_lists(p, n, matrices, others)[0], same_lists(p, n, others, matrices)[0])
            # Turned matrices are alike exactly if the matrices are.
            turned, other_turned = (tuple(tuple(zip(*matrix)) for matrix in told) for told in (matrices, others))
            self.assertEqual(same_lists(p, n, turned, other_turned)[0], same_lists(p, n, matrices, others)[0])

    def test_what_is_handed_in_stays(self):
        square, other = (((1, 2), (0, 1)),), (((1, 0), (0, 1)),)
        wrong = [[[1, 2], [0, 1]]]
        kept = deepcopy((square, other, wrong))
        for told in (square, other):
            same_lists(5, 2, square, told)
            same_pencils(5, 2, 2, square, told)
            same_systems(5, 2, (((1,), (2,)),), (((1, 2), (0, 0)),))
        for function in (list_module, system_module):
            function(5, 2, square)
            with self.assertRaises(BadArgument):
                function(5, 2, wrong)
            with self.assertRaises(BadArgument):
                function(5, 2, tuple(wrong))
        for function in (same_lists, same_systems):
            with self.assertRaises(BadArgument):
                function(5, 2, square, wrong)
        self.assertEqual((square, other, wrong), kept)


if __name__ == "__main__":
    unittest.main()
