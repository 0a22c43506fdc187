"""Points 301 to 304, and the interface of plumbnet/echelon.py."""

import inspect
import unittest
from itertools import product

from helpers import fractions, made, matrix, rank_of, ratio, times, vector
from plumbnet import echelon
from plumbnet.echelon import kernel, rank, reduced, solve, span_of
from plumbnet.matrices import apply, product as multiplied, transpose, zeros
from plumbnet.ratio import Ratio
from plumbnet.vectors import plus, scale, unit, zero


def all_small():
    """Matrices of many forms and ranks, each with its width."""
    for height, width in product(range(4), repeat=2):
        for number, flat in enumerate(product((0, 1, -2), repeat=height * width)):
            # Of the largest forms some are enough.
            if height * width < 6 or number % 31 == 0:
                yield matrix(*[flat[at * width:at * width + width] for at in range(height)]), width
    for height, width, between in product((2, 4, 6), (3, 5), (0, 1, 2, 3)):
        yield multiplied(made(height, between, 3), made(between, width, 8), width), width
    for height, width in product((1, 4, 7), (2, 5, 6)):
        yield made(height, width, 2), width


SMALL = list(all_small())


class EchelonCase(unittest.TestCase):
    def check_vector(self, result, width):
        self.assertIs(type(result), tuple)
        self.assertEqual(len(result), width)
        for one in result:
            self.assertIs(type(one), Ratio)


class Reduced(EchelonCase):
    def check(self, given, width, rows, pivots):
        result = reduced(given, width)
        self.assertEqual(result, (matrix(*rows), pivots))
        self.assertIs(type(result), tuple)
        self.assertIs(type(result[0]), tuple)
        self.assertIs(type(result[1]), tuple)

    def test_plain(self):
        self.check(matrix((2, 4), (1, 3)), 2, [(1, 0), (0, 1)], (0, 1))
        self.check(matrix((2, 4, 6)), 3, [(1, 2, 3)], (0,))
        self.check(matrix((1, 2, 3), (4, 5, 6), (7, 8, 9)), 3, [(1, 0, -1), (0, 1, 2)], (0, 1))
        self.check(matrix((1, 2), (2, 4), (3, 6)), 2, [(1, 2)], (0,))
        self.check(matrix((-3, "1/2")), 2, [(1, "-1/6")], (0,))
        self.check(matrix((1, 1, 1, 1), (1, 1, 2, 3)), 4, [(1, 1, 0, -1), (0, 0, 1, 2)], (0, 2))

    def test_rows_are_exchanged(self):
        self.check(matrix((0, 1), (1, 0)), 2, [(1, 0), (0, 1)], (0, 1))
        self.check(matrix((0, 2, 1), (0, 0, 0), (3, 0, 0)), 3, [(1, 0, 0), (0, 1, "1/2")], (0, 1))
        self.check(matrix((0, 0, 5), (0, 2, 1), (4, 3, 2)), 3, [(1, 0, 0), (0, 1, 0), (0, 0, 1)], (0, 1, 2))

    def test_columns_of_zeros(self):
        self.check(matrix((0, 0, 2, 4), (0, 0, 1, 3)), 4, [(0, 0, 1, 0), (0, 0, 0, 1)], (2, 3))
        self.check(matrix((1, 0, 2), (3, 0, 4)), 3, [(1, 0, 0), (0, 0, 1)], (0, 2))
        self.check(matrix((1, 2, 0), (3, 4, 0)), 3, [(1, 0, 0), (0, 1, 0)], (0, 1))

    def test_zeros(self):
        for height, width in product(range(4), repeat=2):
            self.check(zeros(height, width), width, [], ())

    def test_without_rows(self):
        for width in range(4):
            self.check((), width, [], ())

    def test_rows_of_length_0(self):
        self.check(((), ()), 0, [], ())

    def test_already_reduced(self):
        rows = [(1, 0, 3, 0), (0, 1, -4, 0), (0, 0, 0, 1)]
        self.check(matrix(*rows), 4, rows, (0, 1, 3))

    def test_form(self):
        for given, width in SMALL:
            rows, pivots = reduced(given, width)
            self.assertEqual(len(rows), len(pivots))
            self.assertEqual(list(pivots), sorted(set(pivots)))
            for at, (row, pivot) in enumerate(zip(rows, pivots)):
                self.check_vector(row, width)
                self.assertEqual(row[:pivot], zero(pivot))
                self.assertEqual(tuple(one[pivot] for one in rows), unit(len(rows), at))

    def test_same_span(self):
        for given, width in SMALL:
            rows, pivots = reduced(given, width)
            # At the pivots only one of the rows is not 0, so the numbers there tell the factors.
            for row in given:
                total = zero(width)
                for one, pivot in zip(rows, pivots):
                    total = plus(total, scale(row[pivot], one))
                self.assertEqual(total, row)
            self.assertEqual(len(rows), rank_of(given, width))


class Rank(EchelonCase):
    def test_plain(self):
        self.assertEqual(rank(matrix((1, 2), (3, 4)), 2), 2)
        self.assertEqual(rank(matrix((1, 2), (2, 4)), 2), 1)
        self.assertEqual(rank(matrix((1, 2, 3), (4, 5, 6), (7, 8, 9)), 3), 2)
        self.assertEqual(rank(matrix((1,), (2,), (0,)), 1), 1)
        self.assertEqual(rank(matrix((1, 2, 3)), 3), 1)

    def test_zeros_and_without_rows(self):
        for height, width in product(range(4), repeat=2):
            self.assertEqual(rank(zeros(height, width), width), 0)

    def test_all(self):
        for given, width in SMALL:
            result = rank(given, width)
            self.assertIs(type(result), int)
            self.assertEqual(result, rank_of(given, width))
            self.assertEqual(rank(transpose(given, width), len(given)), result)


class Kernel(EchelonCase):
    def check(self, given, width, *vectors):
        result = kernel(given, width)
        self.assertIs(type(result), list)
        self.assertEqual(result, list(matrix(*vectors)))

    def test_example_of_the_document(self):
        self.check(matrix((1, 2, 0)), 3, (-2, 1, 0), (0, 0, 1))

    def test_plain(self):
        self.check(matrix((1, -1)), 2, (1, 1))
        self.check(matrix((1, 2, 3), (4, 5, 6), (7, 8, 9)), 3, (1, -2, 1))
        self.check(matrix((1, 1, 1, 1), (1, 1, 2, 3)), 4, (-1, 1, 0, 0), (1, 0, -2, 1))
        self.check(matrix((0, 2, "1/2")), 3, (1, 0, 0), (0, "-1/4", 1))
        self.check(matrix((1, 0, 2), (3, 0, 4)), 3, (0, 1, 0))

    def test_full_rank(self):
        self.check(matrix((1, 2), (3, 4)), 2)
        self.check(matrix((1, 2), (3, 4), (5, 6)), 2)
        self.check(matrix((7,)), 1)

    def test_without_rows_and_zeros(self):
        for width in range(4):
            for height in range(3):
                self.check(zeros(height, width), width, *[[at == one for at in range(width)] for one in range(width)])

    def test_all(self):
        for given, width in SMALL:
            _, pivots = reduced(given, width)
            free = [at for at in range(width) if at not in pivots]
            result = kernel(given, width)
            self.assertEqual(len(result), len(free))
            self.assertEqual(len(result), width - rank_of(given, width))
            for at, one in enumerate(result):
                self.check_vector(one, width)
                self.assertEqual(apply(given, one), zero(len(given)))
                self.assertEqual(tuple(one[column] for column in free), unit(len(free), at))


class Solve(EchelonCase):
    def check(self, given, width, numbers, expected):
        result = solve(given, width, vector(*numbers))
        if expected is None:
            self.assertIsNone(result)
        else:
            self.check_vector(result, width)
            self.assertEqual(result, vector(*expected))

    def test_one_solution(self):
        self.check(matrix((1, 2), (3, 4)), 2, (5, 6), (-4, "9/2"))
        self.check(matrix((0, 1), (1, 0)), 2, (5, 6), (6, 5))
        self.check(matrix((2,), (4,)), 1, (3, 6), ("3/2",))
        self.check(matrix((1, 1), (1, -1), (2, 0)), 2, (3, 1, 4), (2, 1))

    def test_many_solutions(self):
        self.check(matrix((1, 1)), 2, (7,), (7, 0))
        self.check(matrix((0, 2)), 2, (7,), (0, "7/2"))
        self.check(matrix((1, 2, 3), (4, 5, 6), (7, 8, 9)), 3, (6, 15, 24), (0, 3, 0))
        self.check(matrix((1, 1, 1, 1), (1, 1, 2, 3)), 4, (1, 5), (-3, 0, 4, 0))
        self.check(matrix((0, 0, 0)), 3, (0,), (0, 0, 0))

    def test_no_solution(self):
        self.check(matrix((1, 2), (2, 4)), 2, (1, 3), None)
        self.check(matrix((0, 0)), 2, (1,), None)
        self.check(matrix((1,), (1,)), 1, (1, 2), None)
        self.check(matrix((1, 2, 3), (4, 5, 6), (7, 8, 9)), 3, (6, 15, 25), None)

    def test_without_rows(self):
        for width in range(4):
            self.check((), width, (), [0] * width)

    def test_rows_of_length_0(self):
        self.check(((),), 0, (0,), ())
        self.check(((), ()), 0, (0, 0), ())
        self.check(((), ()), 0, (0, 1), None)

    def test_vector_0(self):
        for given, width in SMALL:
            self.check(given, width, [0] * len(given), [0] * width)

    def test_all(self):
        told = refused = 0
        for given, width in SMALL:
            height = len(given)
            _, pivots = reduced(given, width)
            inside = apply(given, tuple(ratio(f"{at - 1}/3") for at in range(width)))
            for numbers in (inside, vector(*range(1, height + 1)), unit(height, 0)):
                result = solve(given, width, numbers)
                longer = matrix_beside(given, numbers)
                if rank_of(longer, width + 1) > rank_of(given, width):
                    self.assertIsNone(result)
                    refused += 1
                else:
                    self.check_vector(result, width)
                    self.assertEqual(
                        times(fractions(given), [[one] for one in fractions((result,))[0]], 1),
                        [[one] for one in fractions((numbers,))[0]],
                    )
                    for at in range(width):
                        if at not in pivots:
                            self.assertEqual(result[at], Ratio(0))
                    told += 1
        self.assertGreater(min(told, refused), 100)


def matrix_beside(given, numbers):
    return tuple((*row, number) for row, number in zip(given, numbers))


class Span(EchelonCase):
    def check(self, rows, width, wanted, expected):
        result = span_of(rows, width, vector(*wanted))
        if expected is None:
            self.assertIsNone(result)
        else:
            self.check_vector(result, len(rows))
            self.assertEqual(result, vector(*expected))

    def test_plain(self):
        self.check(matrix((1, 0, 1), (0, 1, 1)), 3, (2, 3, 5), (2, 3))
        self.check(matrix((2, 4)), 2, (3, 6), ("3/2",))
        self.check(matrix((1, 2), (3, 4)), 2, (0, 1), ("3/2", "-1/2"))

    def test_several(self):
        self.check(matrix((1, 1), (2, 2), (0, 1)), 2, (2, 5), (2, 0, 3))
        self.check(matrix((0, 0), (2, 2), (1, 1)), 2, (3, 3), (0, "3/2", 0))

    def test_none(self):
        self.check(matrix((1, 0, 1), (0, 1, 1)), 3, (2, 3, 4), None)
        self.check(matrix((0, 0)), 2, (0, 1), None)

    def test_without_rows(self):
        for width in range(4):
            self.check((), width, [0] * width, ())
            for at in range(width):
                self.check((), width, [at == one for one in range(width)], None)

    def test_rows_of_length_0(self):
        self.check(((), ()), 0, (), (0, 0))

    def test_all(self):
        for rows, width in SMALL:
            inside = apply(transpose(rows, width), vector(*range(1, len(rows) + 1)))
            for wanted in (inside, vector(*range(2, width + 2)), unit(width, 0)):
                result = span_of(rows, width, wanted)
                self.assertEqual(result, solve(transpose(rows, width), len(rows), wanted))
                if rank_of((*rows, wanted), width) > rank_of(rows, width):
                    self.assertIsNone(result)
                else:
                    total = zero(width)
                    for number, row in zip(result, rows):
                        total = plus(total, scale(number, row))
                    self.assertEqual(total, wanted)


class Promises(EchelonCase):
    def test_arguments_stay_as_they_were(self):
        rows = [(0, 2, 4), (1, 3, "1/2"), (1, 5, "9/2"), (2, 0, 0)]
        given, numbers, wanted = matrix(*rows), vector(1, 2, 3, 4), vector(1, 2, 3)
        for _ in range(2):
            self.assertEqual(reduced(given, 3), reduced(matrix(*rows), 3))
            kernel(given, 3)
            rank(given, 3)
            solve(given, 3, numbers)
            span_of(given, 3, wanted)
            self.assertEqual((given, numbers, wanted), (matrix(*rows), vector(1, 2, 3, 4), vector(1, 2, 3)))

    def test_lists_are_new(self):
        given = matrix((1, 2, 0))
        kernel(given, 3).clear()
        self.assertEqual(len(kernel(given, 3)), 2)

    def test_functions_are_defined_in_the_file(self):
        for name, arguments in (
            ("reduced", ["matrix", "width"]), ("rank", ["matrix", "width"]), ("kernel", ["matrix", "width"]),
            ("solve", ["matrix", "width", "vector"]), ("span_of", ["rows", "width", "vector"]),
        ):
            self.assertEqual(getattr(echelon, name).__module__, "plumbnet.echelon")
            self.assertEqual(list(inspect.signature(getattr(echelon, name)).parameters), arguments)


if __name__ == "__main__":
    unittest.main()
