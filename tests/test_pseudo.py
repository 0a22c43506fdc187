"""Points 401 to 404, and the interface of plumbnet/pseudo.py."""

import inspect
import unittest
from itertools import permutations, product

from helpers import fractions, made, matrix, rank_of, ratio, times, turned, vector
from plumbnet import pseudo
from plumbnet.matrices import identity, product as multiplied, zeros
from plumbnet.pseudo import add_term, penrose, pseudo_inverse, with_added, with_removed
from plumbnet.ratio import Ratio

SMALL_FORMS = ((1, 1), (1, 2), (2, 1), (2, 2), (1, 3), (3, 1), (2, 3), (3, 2), (3, 3))


def all_small():
    """Matrices of many forms and ranks, all with rows and columns, each with its width."""
    for height, width in SMALL_FORMS:
        for number, flat in enumerate(product((0, 1, -2), repeat=height * width)):
            # Of the larger forms some are enough.
            if number % max(1, 3 ** (height * width - 5)) == 0:
                yield matrix(*[flat[at * width:at * width + width] for at in range(height)]), width
    for height, width, between in product((2, 4, 5), (3, 5), (0, 1, 2, 3)):
        yield multiplied(made(height, between, 3), made(between, width, 8), width), width


SMALL = list(all_small())


class PseudoCase(unittest.TestCase):
    def check_form(self, result, height, width):
        self.assertIs(type(result), tuple)
        self.assertEqual(len(result), height)
        for row in result:
            self.assertIs(type(row), tuple)
            self.assertEqual(len(row), width)
            for one in row:
                self.assertIs(type(one), Ratio)

    def check_conditions(self, given, width, result):
        """The four conditions of point 401, multiplied out in Python's Fractions."""
        height = len(given)
        self.check_form(result, width, height)
        m, p = fractions(given), fractions(result)
        before, behind = times(m, p, height), times(p, m, width)
        self.assertEqual(times(before, m, width), m)
        self.assertEqual(times(behind, p, height), p)
        self.assertEqual(turned(before, height), before)
        self.assertEqual(turned(behind, width), behind)


class FromNothing(PseudoCase):
    def check(self, given, width, *rows):
        self.assertEqual(pseudo_inverse(given, width), matrix(*rows))
        self.check_conditions(given, width, pseudo_inverse(given, width))

    def test_full_rank(self):
        self.check(matrix((2,)), 1, ("1/2",))
        self.check(matrix((1, 2), (3, 4)), 2, (-2, 1), ("3/2", "-1/2"))
        self.check(identity(3), 3, (1, 0, 0), (0, 1, 0), (0, 0, 1))
        self.check(matrix((0, 2), (4, 0)), 2, (0, "1/4"), ("1/2", 0))

    def test_full_rank_of_rows_or_columns(self):
        self.check(matrix((3, 4)), 2, ("3/25",), ("4/25",))
        self.check(matrix((3,), (4,)), 1, ("3/25", "4/25"))
        self.check(matrix((1, 0, 1), (0, 1, 1)), 3, ("2/3", "-1/3"), ("-1/3", "2/3"), ("1/3", "1/3"))

    def test_less_than_full_rank(self):
        self.check(matrix((1, 1), (1, 1)), 2, ("1/4", "1/4"), ("1/4", "1/4"))
        self.check(matrix((1, -1), (-1, 1)), 2, ("1/4", "-1/4"), ("-1/4", "1/4"))
        self.check(matrix((0, 1), (0, 0)), 2, (0, 0), (1, 0))
        self.check(matrix((1, 2), (2, 4), (0, 0)), 2, ("1/25", "2/25", 0), ("2/25", "4/25", 0))

    def test_zeros(self):
        for height, width in product(range(4), repeat=2):
            result = pseudo_inverse(zeros(height, width), width)
            self.check_form(result, width, height)
            self.assertEqual(result, zeros(width, height))

    def test_without_rows(self):
        self.assertEqual(pseudo_inverse((), 0), ())
        self.assertEqual(pseudo_inverse((), 1), ((),))
        self.assertEqual(pseudo_inverse((), 3), ((), (), ()))

    def test_rows_of_length_0(self):
        self.assertEqual(pseudo_inverse(((), ()), 0), ())

    def test_conditions(self):
        ranks = set()
        for given, width in SMALL:
            self.check_conditions(given, width, pseudo_inverse(given, width))
            ranks.add(rank_of(given, width))
        self.assertEqual(ranks, {0, 1, 2, 3})

    def test_twice_and_transposed(self):
        for given, width in SMALL[::5]:
            height = len(given)
            result = pseudo_inverse(given, width)
            self.assertEqual(pseudo_inverse(result, height), given)
            across = matrix(*turned(fractions(given), width))
            self.assertEqual(fractions(pseudo_inverse(across, height)), turned(fractions(result), height))

    def test_symmetric(self):
        for given, width in SMALL[::3]:
            rows = fractions(given)
            result = fractions(pseudo_inverse(matrix(*times(turned(rows, width), rows, width)), width))
            self.assertEqual(turned(result, width), result)


class Penrose(PseudoCase):
    def check(self, given, inverse, expected):
        self.assertIs(penrose(given, inverse), expected)

    def test_only_one_condition_fails(self):
        self.check(matrix((1,)), matrix((0,)), False)
        self.check(matrix((0,)), matrix((1,)), False)
        self.check(matrix((1,), (0,)), matrix((1, 5)), False)
        self.check(matrix((1, 0)), matrix((1,), (5,)), False)
        self.check(matrix((1, 0), (0, 1)), matrix((1, 0), (0, 0)), False)
        self.check(matrix((1, 0), (0, 0)), matrix((1, 0), (0, 1)), False)
        self.check(matrix((1, 0), (0, 0)), matrix((1, 5), (0, 0)), False)
        self.check(matrix((1, 0), (0, 0)), matrix((1, 0), (5, 0)), False)

    def test_all_hold(self):
        self.check(matrix((1,), (0,)), matrix((1, 0)), True)
        self.check(matrix((1, 0)), matrix((1,), (0,)), True)
        self.check(matrix((3, 4)), matrix(("3/25",), ("4/25",)), True)
        self.check(matrix((1, 2), (3, 4)), matrix((-2, 1), ("3/2", "-1/2")), True)
        for height, width in product(range(1, 4), repeat=2):
            self.check(zeros(height, width), zeros(width, height), True)

    def test_all(self):
        for given, width in SMALL:
            self.check(given, pseudo_inverse(given, width), True)

    def test_another_number(self):
        for given, width in SMALL[::9]:
            right = pseudo_inverse(given, width)
            for at, to in product(range(width), range(len(given))):
                rows = [list(row) for row in right]
                rows[at][to] = rows[at][to] + Ratio(1, 7)
                self.check(given, tuple(tuple(row) for row in rows), False)


class Terms(PseudoCase):
    def test_plain(self):
        self.assertEqual(add_term(zeros(2, 2), vector(1, -2), ratio(3)), matrix((3, -6), (-6, 12)))
        self.assertEqual(add_term(matrix((1, 2), (2, 5)), vector(0, "1/2"), ratio(8)), matrix((1, 2), (2, 7)))
        self.assertEqual(add_term(matrix((1, 2), (2, 5)), vector(1, 1), ratio("-1/2")), matrix(
            ("1/2", "3/2"), ("3/2", "9/2"),
        ))

    def test_edges(self):
        self.assertEqual(add_term((), (), ratio(3)), ())
        self.assertEqual(add_term(matrix((5,)), vector(2), ratio(-1)), matrix((1,)))
        self.assertEqual(add_term(matrix((1, 2), (2, 5)), vector(0, 0), ratio(7)), matrix((1, 2), (2, 5)))

    def test_and_back(self):
        given = matrix((1, 2, 0), (2, 5, "1/3"), (0, "1/3", 7))
        for row, weight in product((vector(1, -1, 0), vector("1/2", 9, -4)), (ratio(1), ratio("5/7"))):
            there = add_term(given, row, weight)
            self.check_form(there, 3, 3)
            self.assertNotEqual(there, given)
            self.assertEqual(add_term(there, row, -weight), given)


class Edits(PseudoCase):
    """A normal matrix and its pseudo-inverse, edited side by side."""

    def start(self, width):
        self.width = width
        self.normal = zeros(width, width)
        self.inverse = zeros(width, width)

    def add(self, row, weight, growth):
        self.edit(with_added(self.normal, self.inverse, row, weight), row, weight, growth)

    def remove(self, row, weight, growth):
        self.edit(with_removed(self.normal, self.inverse, row, weight), row, -weight, growth)

    def edit(self, inverse, row, weight, growth):
        """Expects the new pseudo-inverse, and that the rank has grown by so much."""
        before = rank_of(self.normal, self.width)
        self.normal, self.inverse = add_term(self.normal, row, weight), inverse
        self.check_conditions(self.normal, self.width, inverse)
        self.assertEqual(turned(fractions(inverse), self.width), fractions(inverse))
        self.assertEqual(inverse, pseudo_inverse(self.normal, self.width))
        self.assertEqual(rank_of(self.normal, self.width) - before, growth)

    def test_each_case_in_numbers(self):
        row, weight = vector(1, -1), ratio(2)
        grown = with_added(zeros(2, 2), zeros(2, 2), row, weight)
        self.assertEqual(grown, matrix(("1/8", "-1/8"), ("-1/8", "1/8")))
        normal = matrix((2, -2), (-2, 2))
        stayed = with_added(normal, grown, row, ratio(6))
        self.assertEqual(stayed, matrix(("1/32", "-1/32"), ("-1/32", "1/32")))
        self.assertEqual(with_removed(matrix((8, -8), (-8, 8)), stayed, row, ratio(6)), grown)
        self.assertEqual(with_removed(normal, grown, row, weight), zeros(2, 2))

    def test_the_rank_grows_and_falls(self):
        self.start(3)
        self.add(vector(1, -1, 0), ratio(2), 1)
        self.add(vector(0, 1, -1), ratio("1/3"), 1)
        self.add(vector(1, 1, 1), ratio(5), 1)
        self.remove(vector(0, 1, -1), ratio("1/3"), -1)
        self.remove(vector(1, 1, 1), ratio(5), -1)
        self.remove(vector(1, -1, 0), ratio(2), -1)
        self.assertEqual(self.inverse, zeros(3, 3))

    def test_the_rank_stays(self):
        self.start(3)
        self.add(vector(1, -1, 0), ratio(2), 1)
        self.add(vector(0, 1, -1), ratio("1/3"), 1)
        self.add(vector(1, 0, -1), ratio(7), 0)
        self.add(vector(2, -2, 0), ratio("4/9"), 0)
        self.remove(vector(1, -1, 0), ratio(2), 0)
        self.remove(vector(0, 1, -1), ratio("1/3"), 0)
        self.remove(vector(2, -2, 0), ratio("4/9"), -1)
        self.remove(vector(1, 0, -1), ratio(7), -1)
        self.assertEqual(self.inverse, zeros(3, 3))

    def test_the_same_term_several_times(self):
        self.start(2)
        for growth in (1, 0, 0):
            self.add(vector(3, -2), ratio("5/4"), growth)
        for growth in (0, 0, -1):
            self.remove(vector(3, -2), ratio("5/4"), growth)
        self.assertEqual(self.inverse, zeros(2, 2))

    def test_a_term_may_be_removed_in_pieces(self):
        self.start(2)
        self.add(vector(3, -2), ratio(2), 1)
        self.remove(vector(3, -2), ratio("1/2"), 0)
        self.remove(vector(3, -2), ratio("3/2"), -1)

    def test_row_of_zeros(self):
        self.start(2)
        self.add(vector(0, 0), ratio(3), 0)
        self.add(vector(1, 4), ratio("1/2"), 1)
        self.add(vector(0, 0), ratio(3), 0)
        self.remove(vector(0, 0), ratio(3), 0)
        self.remove(vector(1, 4), ratio("1/2"), -1)
        self.remove(vector(0, 0), ratio(3), 0)

    def test_one_point_and_none(self):
        self.start(1)
        self.add(vector(-9), ratio("1/81"), 1)
        self.add(vector(1), ratio(1), 0)
        self.assertEqual(self.inverse, matrix(("1/2",)))
        self.remove(vector(-9), ratio("1/81"), 0)
        self.remove(vector(1), ratio(1), -1)
        self.start(0)
        self.add((), ratio(3), 0)
        self.remove((), ratio(3), 0)

    def test_all_orders(self):
        terms = [
            (vector(1, -1, 0), ratio(2)), (vector(0, 1, -1), ratio("1/3")), (vector(1, 0, -1), ratio(1)),
            (vector(0, 0, 9), ratio("7/5")),
        ]
        for order in permutations(range(4)):
            self.start(3)
            present = []
            for at in order:
                present.append(terms[at])
                self.add(*terms[at], self.growth(present[:-1], present))
            for at in (2, 0, 3, 1):
                present.remove(terms[at])
                self.remove(*terms[at], self.growth([*present, terms[at]], present))
            self.assertEqual(self.inverse, zeros(3, 3))

    def growth(self, before, behind):
        """How much the rank of the rows of some terms grows from these terms to those."""
        return rank_of([row for row, _ in behind], self.width) - rank_of([row for row, _ in before], self.width)

    def test_a_long_row_of_edits(self):
        width = 5
        self.start(width)
        present = []
        for step in range(70):
            # Most of the first edits add, and most of the last ones remove.
            if present and (step * 7) % 70 < step:
                term = present[(step * 5) % len(present)]
                others = [one for one in present if one is not term]
                self.remove(*term, self.growth(present, others))
                present = others
            else:
                numbers = [((step + 2) * (at + 3) * 13 // 4) % 7 - 3 if (step + at) % 3 else 0 for at in range(width)]
                term = (vector(*numbers), ratio(f"{step % 4 + 1}/{step % 3 + 1}"))
                self.add(*term, self.growth(present, [*present, term]))
                present = [*present, term]
        for term in list(present):
            others = [one for one in present if one is not term]
            self.remove(*term, self.growth(present, others))
            present = others
        self.assertEqual(self.normal, zeros(width, width))
        self.assertEqual(self.inverse, zeros(width, width))


class Promises(PseudoCase):
    def test_arguments_stay_as_they_were(self):
        rows, other = ((2, 1), (1, 3)), (("3/5", "-1/5"), ("-1/5", "2/5"))
        normal, inverse, row, weight = matrix(*rows), matrix(*other), vector(1, 1), ratio(1)
        pseudo_inverse(normal, 2)
        penrose(normal, inverse)
        add_term(normal, row, weight)
        with_added(normal, inverse, row, weight)
        with_removed(normal, inverse, row, weight)
        self.assertEqual((normal, inverse, row, weight), (matrix(*rows), matrix(*other), vector(1, 1), ratio(1)))

    def test_functions_are_defined_in_the_file(self):
        edit = ["matrix", "inverse", "row", "weight"]
        for name, arguments in (
            ("pseudo_inverse", ["matrix", "width"]), ("penrose", ["matrix", "inverse"]),
            ("add_term", ["matrix", "row", "weight"]), ("with_added", edit), ("with_removed", edit),
        ):
            self.assertEqual(getattr(pseudo, name).__module__, "plumbnet.pseudo")
            self.assertEqual(list(inspect.signature(getattr(pseudo, name)).parameters), arguments)


if __name__ == "__main__":
    unittest.main()
