"""Points 4, 103 and 105, and the interface of plumbnet/vectors.py."""

import unittest
from itertools import product

from helpers import ratio, vector
from plumbnet import vectors
from plumbnet.ratio import Ratio
from plumbnet.vectors import dot, is_zero, minus, plus, scale, unit, zero

LONG = 123456789012345678901234567890


class VectorCase(unittest.TestCase):
    def check(self, result, *expected):
        """Expects a new-made vector, a tuple of Ratios, with these numbers."""
        self.assertIs(type(result), tuple)
        for one in result:
            self.assertIs(type(one), Ratio)
        self.assertEqual(result, vector(*expected))


class Dot(VectorCase):
    def check_dot(self, a, b, expected):
        result = dot(a, b)
        self.assertIs(type(result), Ratio)
        self.assertEqual(result, ratio(expected))

    def test_plain(self):
        self.check_dot(vector(1, 2, 3), vector(4, 5, 6), 32)
        self.check_dot(vector("1/2", "-1/3"), vector(4, "3/2"), "3/2")
        self.check_dot(vector(7), vector("1/7"), 1)
        self.check_dot(vector(1, 2), vector(-2, 1), 0)
        self.check_dot(vector(-1, 2), vector(5, -3), -11)

    def test_each_place_counts_alone(self):
        for width, at in product(range(1, 5), range(4)):
            if at < width:
                self.check_dot(unit(width, at), vector(*range(5, 5 + width)), 5 + at)

    def test_zeros(self):
        self.check_dot(vector(0, 0), vector(3, 4), 0)
        self.check_dot(vector(0, 0), vector(0, 0), 0)

    def test_length_0(self):
        self.check_dot((), (), 0)

    def test_long_numbers(self):
        self.check_dot(vector(LONG, 1), vector(LONG, -1), LONG * LONG - 1)


class Scale(VectorCase):
    def test_plain(self):
        self.check(scale(Ratio(3), vector(1, "-1/2", 0)), 3, "-3/2", 0)
        self.check(scale(Ratio(-1, 2), vector(4, "2/3")), -2, "-1/3")
        self.check(scale(Ratio(1), vector(4, 5)), 4, 5)

    def test_zeros(self):
        self.check(scale(Ratio(0), vector(4, "2/3")), 0, 0)
        self.check(scale(Ratio(5, 3), vector(0, 0, 0)), 0, 0, 0)

    def test_length_0(self):
        self.check(scale(Ratio(3), ()))
        self.check(scale(Ratio(0), ()))


class PlusAndMinus(VectorCase):
    def test_plus(self):
        self.check(plus(vector(1, "1/2", -3), vector(10, "1/3", 3)), 11, "5/6", 0)

    def test_minus(self):
        self.check(minus(vector(1, "1/2", -3), vector(10, "1/3", 3)), -9, "1/6", -6)
        self.check(minus(vector(1, 2), vector(1, 2)), 0, 0)

    def test_zeros(self):
        self.check(plus(vector(0, 0), vector(0, 0)), 0, 0)
        self.check(plus(vector(4, "-1/2"), vector(0, 0)), 4, "-1/2")
        self.check(minus(vector(0, 0), vector(0, 0)), 0, 0)
        self.check(minus(vector(0, 0), vector(4, "-1/2")), -4, "1/2")
        self.check(minus(vector(4, "-1/2"), vector(0, 0)), 4, "-1/2")

    def test_length_0(self):
        self.check(plus((), ()))
        self.check(minus((), ()))

    def test_length_1(self):
        self.check(plus(vector(LONG), vector(1)), LONG + 1)
        self.check(minus(vector(LONG), vector(LONG - 1)), 1)


class ZeroAndUnit(VectorCase):
    def test_zero(self):
        self.check(zero(0))
        self.check(zero(1), 0)
        self.check(zero(3), 0, 0, 0)

    def test_unit(self):
        self.check(unit(1, 0), 1)
        self.check(unit(3, 0), 1, 0, 0)
        self.check(unit(3, 1), 0, 1, 0)
        self.check(unit(3, 2), 0, 0, 1)

    def test_is_zero(self):
        self.assertIs(is_zero(()), True)
        self.assertIs(is_zero(vector(0)), True)
        self.assertIs(is_zero(vector(0, 0, 0)), True)
        self.assertIs(is_zero(vector("1/1000000000")), False)
        self.assertIs(is_zero(vector(-1, 1)), False)
        for width in range(5):
            self.assertIs(is_zero(zero(width)), True)
            for at in range(width):
                self.assertIs(is_zero(unit(width, at)), False)
                self.assertIs(is_zero(scale(Ratio(-1, 9), unit(width, at))), False)


class Promises(VectorCase):
    def test_arguments_stay_as_they_were(self):
        a, b, factor = vector(1, "-1/2", 0), vector("2/3", 4, -5), Ratio(-3, 7)
        dot(a, b)
        scale(factor, a)
        plus(a, b)
        minus(a, b)
        is_zero(a)
        self.check(a, 1, "-1/2", 0)
        self.check(b, "2/3", 4, -5)
        self.assertEqual(factor, ratio("-3/7"))

    def test_functions_are_defined_in_the_file(self):
        for name in ("dot", "scale", "plus", "minus", "zero", "unit", "is_zero"):
            self.assertEqual(getattr(vectors, name).__module__, "plumbnet.vectors")


if __name__ == "__main__":
    unittest.main()
