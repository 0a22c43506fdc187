"""Points 4, 104 and 105, and the interface of plumbnet/matrices.py."""

import unittest
from itertools import product as pairs_of

from helpers import made, matrix, vector
from plumbnet import matrices
from plumbnet.matrices import (
    apply, identity, is_symmetric, outer, product, scaled, sum_of, transpose, zeros,
)
from plumbnet.ratio import Ratio
from plumbnet.vectors import dot

WIDE_ROWS = ((1, 2, 3), ("1/2", 0, -1))
TALL_ROWS = ((1, "1/2"), (2, 0), (3, -1))
WIDE = matrix(*WIDE_ROWS)
TALL = matrix(*TALL_ROWS)
SQUARE = matrix((1, 2), (3, 4))


FORMS = list(pairs_of(range(4), range(4)))


class MatrixCase(unittest.TestCase):
    def check(self, result, *rows):
        """Expects a matrix, a tuple of tuples of Ratios, with these rows."""
        self.assertIs(type(result), tuple)
        for row in result:
            self.assertIs(type(row), tuple)
            for one in row:
                self.assertIs(type(one), Ratio)
        self.assertEqual(result, matrix(*rows))


class Transpose(MatrixCase):
    def test_plain(self):
        self.check(transpose(WIDE, 3), *TALL_ROWS)
        self.check(transpose(TALL, 2), *WIDE_ROWS)
        self.check(transpose(SQUARE, 2), (1, 3), (2, 4))
        self.check(transpose(matrix((5,)), 1), (5,))
        self.check(transpose(matrix((1, 2, 3)), 3), (1,), (2,), (3,))
        self.check(transpose(matrix((1,), (2,)), 1), (1, 2))

    def test_without_rows(self):
        self.check(transpose((), 0))
        self.check(transpose((), 1), ())
        self.check(transpose((), 3), (), (), ())

    def test_rows_of_length_0(self):
        self.check(transpose(((),), 0))
        self.check(transpose(((), (), ()), 0))

    def test_number_by_number_and_back(self):
        for height, width in FORMS:
            one = made(height, width, 1)
            other = transpose(one, width)
            self.assertEqual(len(other), width)
            for row, column in pairs_of(range(height), range(width)):
                self.assertEqual(other[column][row], one[row][column])
            self.assertEqual(transpose(other, height), one)


class Apply(MatrixCase):
    def check_vector(self, result, *expected):
        self.check((result,), expected)

    def test_plain(self):
        self.check_vector(apply(WIDE, vector(1, 10, 100)), 321, "-199/2")
        self.check_vector(apply(TALL, vector(2, -4)), 0, 4, 10)
        self.check_vector(apply(SQUARE, vector("1/2", "1/3")), "7/6", "17/6")
        self.check_vector(apply(identity(3), vector(4, 5, 6)), 4, 5, 6)
        self.check_vector(apply(zeros(2, 3), vector(4, 5, 6)), 0, 0)

    def test_without_rows(self):
        self.check_vector(apply((), ()))
        self.check_vector(apply((), vector(1, 2)))

    def test_rows_of_length_0(self):
        self.check_vector(apply(((), ()), ()), 0, 0)


class Product(MatrixCase):
    def test_plain(self):
        self.check(product(SQUARE, matrix((0, 1), (1, 0)), 2), (2, 1), (4, 3))
        self.check(product(matrix((0, 1), (1, 0)), SQUARE, 2), (3, 4), (1, 2))
        self.check(product(matrix((1, 2)), matrix((3,), (4,)), 1), (11,))
        self.check(product(matrix((3,), (4,)), matrix((1, 2)), 2), (3, 6), (4, 8))
        self.check(product(WIDE, TALL, 2), (14, "-5/2"), ("-5/2", "5/4"))
        self.check(product(TALL, WIDE, 3), ("5/4", 2, "5/2"), (2, 4, 6), ("5/2", 6, 10))

    def test_without_rows(self):
        self.check(product((), (), 0))
        self.check(product((), (), 3))
        self.check(product((), SQUARE, 2))

    def test_no_columns_and_rows_between(self):
        self.check(product(((), ()), (), 0), (), ())
        self.check(product(((), ()), (), 3), (0, 0, 0), (0, 0, 0))

    def test_second_one_with_rows_of_length_0(self):
        self.check(product(SQUARE, ((), ()), 0), (), ())
        self.check(product(matrix((1, 2, 3)), ((), (), ()), 0), ())

    def test_number_by_number(self):
        for height, between, width in pairs_of(range(4), repeat=3):
            first, second = made(height, between, 2), made(between, width, 5)
            result = product(first, second, width)
            self.assertEqual(len(result), height)
            for row in range(height):
                self.assertEqual(len(result[row]), width)
                for column in range(width):
                    self.assertEqual(result[row][column], dot(first[row], tuple(one[column] for one in second)))


class IdentityAndZeros(MatrixCase):
    def test_identity(self):
        self.check(identity(0))
        self.check(identity(1), (1,))
        self.check(identity(3), (1, 0, 0), (0, 1, 0), (0, 0, 1))

    def test_zeros(self):
        self.check(zeros(0, 0))
        self.check(zeros(0, 3))
        self.check(zeros(2, 0), (), ())
        self.check(zeros(1, 1), (0,))
        self.check(zeros(2, 3), (0, 0, 0), (0, 0, 0))
        self.check(zeros(3, 2), (0, 0), (0, 0), (0, 0))


class Outer(MatrixCase):
    def test_plain(self):
        self.check(outer(vector(1, 2), vector(3, 4, 5)), (3, 4, 5), (6, 8, 10))
        self.check(outer(vector(3, 4, 5), vector(1, 2)), (3, 6), (4, 8), (5, 10))
        self.check(outer(vector("1/2", -1, 0), vector(2, "-1/3")), (1, "-1/6"), (-2, "1/3"), (0, 0))
        self.check(outer(vector(0, 0), vector(0)), (0,), (0,))

    def test_length_0(self):
        self.check(outer((), ()))
        self.check(outer((), vector(1, 2)))
        self.check(outer(vector(1, 2), ()), (), ())


class SumAndScaled(MatrixCase):
    def test_sum(self):
        self.check(sum_of(SQUARE, matrix((10, "-1/2"), (-3, 0))), (11, "3/2"), (0, 4))
        self.check(sum_of(WIDE, zeros(2, 3)), *WIDE_ROWS)
        self.check(sum_of(matrix((1, 2, 3)), matrix((4, 5, 6))), (5, 7, 9))

    def test_sum_without_numbers(self):
        self.check(sum_of((), ()))
        self.check(sum_of(((), ()), ((), ())), (), ())

    def test_scaled(self):
        self.check(scaled(Ratio(-2), SQUARE), (-2, -4), (-6, -8))
        self.check(scaled(Ratio(1, 2), WIDE), ("1/2", 1, "3/2"), ("1/4", 0, "-1/2"))
        self.check(scaled(Ratio(0), TALL), (0, 0), (0, 0), (0, 0))

    def test_scaled_without_numbers(self):
        self.check(scaled(Ratio(3), ()))
        self.check(scaled(Ratio(3), ((), ())), (), ())


class Symmetric(MatrixCase):
    def test_plain(self):
        self.assertIs(is_symmetric(matrix((5,))), True)
        self.assertIs(is_symmetric(matrix((1, 2), (2, 5))), True)
        self.assertIs(is_symmetric(matrix((0, "-1/2"), ("-1/2", 0))), True)
        self.assertIs(is_symmetric(SQUARE), False)
        self.assertIs(is_symmetric(matrix((0, 1), (-1, 0))), False)
        self.assertIs(is_symmetric(zeros(3, 3)), True)
        self.assertIs(is_symmetric(identity(4)), True)

    def test_without_rows(self):
        self.assertIs(is_symmetric(()), True)

    def test_rows_of_length_0(self):
        self.assertIs(is_symmetric(((),)), False)
        self.assertIs(is_symmetric(((), ())), False)

    def test_not_square(self):
        self.assertIs(is_symmetric(WIDE), False)
        self.assertIs(is_symmetric(TALL), False)
        for height, width in FORMS:
            if height > 0 and height != width:
                self.assertIs(is_symmetric(zeros(height, width)), False, (height, width))
        self.assertIs(is_symmetric(matrix((1, 2, 9), (2, 1, 9))), False)
        self.assertIs(is_symmetric(matrix((1, 2), (2, 1), (9, 9))), False)

    def test_one_place_differs(self):
        for size in range(1, 5):
            one = made(size, size, 3)
            both = sum_of(one, transpose(one, size))
            self.assertIs(is_symmetric(both), True)
            for row, column in pairs_of(range(size), range(size)):
                rows = [list(numbers) for numbers in both]
                rows[row][column] = rows[row][column] + Ratio(1, 9)
                changed = tuple(tuple(numbers) for numbers in rows)
                self.assertIs(is_symmetric(changed), row == column, (size, row, column))


class Promises(MatrixCase):
    def test_arguments_stay_as_they_were(self):
        wide, tall, square, factor = matrix(*WIDE_ROWS), matrix(*TALL_ROWS), matrix((1, 2), (3, 4)), Ratio(-3, 7)
        transpose(wide, 3)
        apply(wide, tall[0] + tall[1][:1])
        product(wide, tall, 2)
        outer(wide[0], tall[0])
        sum_of(wide, wide)
        scaled(factor, wide)
        is_symmetric(square)
        self.check(wide, *WIDE_ROWS)
        self.check(tall, *TALL_ROWS)
        self.check(square, (1, 2), (3, 4))
        self.assertEqual((factor.top, factor.bottom), (-3, 7))

    def test_functions_are_defined_in_the_file(self):
        for name in (
            "transpose", "apply", "product", "identity", "zeros", "outer", "sum_of", "scaled", "is_symmetric",
        ):
            self.assertEqual(getattr(matrices, name).__module__, "plumbnet.matrices")


if __name__ == "__main__":
    unittest.main()
