"""Points 2, 3, 105 and 801 to 805, and the interface of plumbnet/parts.py."""

import inspect
import unittest
from fractions import Fraction
from itertools import combinations, permutations

from helpers import (
    book_of, dotted, fraction, fractions, least_heights, matrix, net_state, numbers, ratio, squares_of, state, turned,
    vector,
)
from plumbnet import parts
from plumbnet.adjust import net_of
from plumbnet.books import Book
from plumbnet.errors import UnknownPoint
from plumbnet.parts import Form, border_form, inner_heights, join, least_of, value_at
from plumbnet.ratio import Ratio
from samples import Draw, drawn, full, samples


def form_state(form):
    return form.names, form.matrix, form.vector, form.constant


def held(book, heights):
    """The inner points alone, with the values that the readings have left at these heights of the others."""
    names = [name for name in book.points if name not in heights]
    other, left = Book(), Fraction(0)
    for name in names:
        other.add_point(name, book.approximations[name])
    for one in book.readings:
        known = sum((times * fraction(heights[point]) for point, times in one.terms if point in heights), Fraction(0))
        terms = tuple((point, times) for point, times in one.terms if point not in heights)
        value = fraction(one.value) - known
        if terms:
            other.add_reading(one.name, terms, ratio(value), one.weight)
        else:
            left += fraction(one.weight) * value * value
    return other, left


def least_squares(book, heights):
    """The least squares over all inner heights at these border heights, by other means than the program's."""
    other, left = held(book, heights)
    return squares_of(other, least_heights(other)) + left


def told_value(form, x):
    """x' A x - 2 b' x + c, in Fractions."""
    a, b = fractions(form.matrix), numbers(form.vector)
    return dotted([dotted(row, x) for row in a], x) - 2 * dotted(b, x) + fraction(form.constant)


def together(*books):
    """All points and readings of some books in one book."""
    whole = Book()
    for book in books:
        for name in book.points:
            if name not in whole.points:
                whole.add_point(name, book.approximations[name])
        for one in book.readings:
            whole.add_reading(one.name, one.terms, one.value, one.weight)
    return whole


def part(seed, inner, border, readings, mark, differences=False):
    """A drawn book with inner points and readings of its own, marked so, and with these border points."""
    draw = Draw(seed)
    names = [*[f"{mark}{at}" for at in range(inner)], *border]
    names = [*names[1::2], *names[0::2]]
    told = []
    for at in range(readings):
        terms = draw.difference(names) if differences else draw.terms(names, 3)
        told.append((f"{mark}r{at}", terms, draw.number(), draw.weight()))
    return book_of([(name, draw.number() if name not in border else len(name)) for name in names], told)


class PartCase(unittest.TestCase):
    def check_form(self, form, names):
        width = len(names)
        self.assertIs(type(form), Form)
        self.assertEqual(set(vars(form)), {"names", "matrix", "vector", "constant"})
        self.assertEqual(form.names, tuple(names))
        self.assertIs(type(form.names), tuple)
        self.assertEqual((type(form.matrix), type(form.vector), type(form.constant)), (tuple, tuple, Ratio))
        self.assertEqual([[type(one) for one in row] for row in form.matrix], [[Ratio] * width] * width)
        self.assertEqual([type(row) for row in form.matrix], [tuple] * width)
        self.assertEqual([type(one) for one in form.vector], [Ratio] * width)
        self.assertEqual(turned(fractions(form.matrix), width), fractions(form.matrix))

    def check_same(self, form, other):
        self.assertEqual(form_state(form), form_state(other))

    def refuse(self, name, called, book, given):
        before, kept = state(book), type(given)(given)
        with self.assertRaises(UnknownPoint) as caught:
            called(book, given)
        self.assertIs(type(caught.exception), UnknownPoint)
        self.assertEqual(vars(caught.exception), {"name": name})
        self.assertEqual((state(book), given), (before, kept))


class BorderForms(PartCase):
    def check(self, book, border):
        """Point 802 at as many heights as make the form certain, and at drawn ones."""
        before, given = state(book), list(border)
        form = border_form(book, given)
        self.assertEqual((state(book), given), (before, list(border)))
        names = sorted(border)
        self.check_form(form, names)
        draw, width = Draw(len(names) + 3), len(names)
        # A symmetric matrix, a vector and a number are told by the values at 0, at each unit vector, at its negative
        # and at the sum of each two of them.
        units = [[Fraction(int(i == j)) for j in range(width)] for i in range(width)]
        points = [[Fraction(0)] * width, *units, *[[-one for one in unit] for unit in units]]
        points += [[x + y for x, y in zip(first, second)] for first, second in combinations(units, 2)]
        points += [[Fraction(draw.number()) for _ in names] for _ in range(2)]
        for x in points:
            heights = {name: ratio(one) for name, one in zip(names, x)}
            self.assertEqual(told_value(form, x), least_squares(book, heights))
            kept = dict(heights)
            value = value_at(form, heights)
            self.assertIs(type(value), Ratio)
            self.assertEqual(fraction(value), told_value(form, x))
            self.assertEqual(heights, kept)
        return form

    def test_all_borders_of_small_books(self):
        for book in samples().values():
            if len(book.points) <= 4:
                for size in range(len(book.points) + 1):
                    for border in combinations(book.points, size):
                        self.check(book, border)

    def test_some_borders_of_other_books(self):
        for name in ("unnamed points", "drawn differences", "drawn terms", "drawn few", "drawn pieces"):
            book = samples()[name]
            draw = Draw(len(name))
            for _ in range(4):
                self.check(book, [one for one in book.points if draw.below(3) == 0])

    def test_no_border(self):
        for book in samples().values():
            form = self.check(book, [])
            net = net_of(book)
            self.assertEqual((form.names, form.matrix, form.vector), ((), (), ()))
            self.assertEqual(form.constant, net.squares())
            self.assertEqual(value_at(form, {}), net.squares())

    def test_all_points(self):
        for name in ("fixed", "two pieces", "alike"):
            book = samples()[name]
            form = self.check(book, book.points)
            draw = Draw(4)
            for _ in range(4):
                heights = {point: ratio(draw.number()) for point in book.points}
                x = [fraction(heights[point]) for point in book.points]
                self.assertEqual(fraction(value_at(form, heights)), squares_of(book, x))

    def test_any_order_of_the_border(self):
        for name in ("fixed", "two pieces"):
            book = samples()[name]
            for border in combinations(book.points, 3):
                form = border_form(book, list(border))
                for other in permutations(border):
                    self.check_same(border_form(book, list(other)), form)

    def test_in_numbers(self):
        # From A to C lead the reading of the weight 1/2 and, over B, those of the weights 1 and 2: 2/3 together.
        form = border_form(samples()["loop"], ["C", "A"])
        self.assertEqual(form.names, ("A", "C"))
        self.assertEqual(form.matrix, matrix(("7/6", "-7/6"), ("-7/6", "7/6")))
        self.assertEqual(form.vector, vector("-19/3", "19/3"))
        self.assertEqual(form.constant, ratio("104/3"))
        example = border_form(samples()["example"], ["B", "A"])
        self.assertEqual(form_state(example), (
            ("A", "B"), matrix((1, -1), (-1, 1)), vector("-5/2", "5/2"), ratio("25/4"),
        ))
        alone = border_form(samples()["example"], ["B"])
        self.assertEqual(form_state(alone), (("B",), matrix((0,)), vector(0), Ratio(0)))

    def test_approximations_do_not_matter(self):
        book = samples()["drawn differences"]
        form = border_form(book, book.points[:2])
        for name in book.points:
            book.change_approximation(name, Ratio(-99))
        self.check_same(border_form(book, book.points[:2]), form)

    def test_without_readings(self):
        self.assertEqual(form_state(border_form(Book(), [])), ((), (), (), Ratio(0)))
        self.assertEqual(form_state(border_form(samples()["points"], ["B", "A"])), (
            ("A", "B"), matrix((0, 0), (0, 0)), vector(0, 0), Ratio(0),
        ))

    def test_full_book(self):
        book = full()
        for many in (1, 11):
            form = border_form(book, book.points[:many])
            self.check_form(form, sorted(book.points[:many]))
            draw = Draw(many)
            heights = {name: ratio(draw.number()) for name in book.points[:many]}
            self.assertEqual(fraction(value_at(form, heights)), least_squares(book, heights))

    def test_unknown_points(self):
        book = samples()["fixed"]
        for border, name in (
            (["D"], "D"), (["A", "Z", "D"], "Z"), (["ab", "A"], "ab"), (["A", "B", "C", "D"], "D"),
        ):
            self.refuse(name, border_form, book, border)
        self.refuse("A", border_form, Book(), ["A"])


class Join(PartCase):
    def check(self, first, second):
        kept = form_state(first), form_state(second)
        form = join(first, second)
        self.assertEqual((form_state(first), form_state(second)), kept)
        names = sorted({*first.names, *second.names})
        self.check_form(form, names)
        draw = Draw(len(names))
        for _ in range(4):
            heights = {name: ratio(draw.number()) for name in names}
            self.assertEqual(value_at(form, heights), value_at(first, heights) + value_at(second, heights))
        self.check_same(join(second, first), form)
        return form

    def forms(self):
        return [
            Form((), (), (), ratio("7/3")), border_form(samples()["loop"], ["A", "C"]),
            border_form(samples()["two pieces"], ["B", "X"]), border_form(samples()["fixed"], ["B", "A", "C"]),
            border_form(samples()["points"], ["A"]), border_form(samples()["drawn terms"], ["P1", "Q0", "Z5"][:2]),
            Form(("M",), matrix((5,)), vector(2), Ratio(-1)),
        ]

    def test_all_pairs(self):
        for first in self.forms():
            for second in self.forms():
                self.check(first, second)

    def test_any_order(self):
        chosen = self.forms()[1:5]
        told = None
        for order in permutations(chosen):
            form = order[0]
            for other in order[1:]:
                form = join(form, other)
            told = told or form
            self.check_same(form, told)
        first, second, third = chosen[:3]
        self.check_same(join(first, join(second, third)), join(join(first, second), third))

    def test_in_numbers(self):
        first = Form(("A", "C"), matrix((1, 2), (2, 5)), vector(3, 4), Ratio(6))
        second = Form(("B", "C"), matrix((10, 20), (20, 50)), vector(30, 40), Ratio(60))
        self.assertEqual(form_state(join(first, second)), (
            ("A", "B", "C"), matrix((1, 0, 2), (0, 10, 20), (2, 20, 55)), vector(3, 30, 44), Ratio(66),
        ))
        third = Form(("B",), matrix((7,)), vector(8), Ratio(9))
        self.assertEqual(form_state(join(first, third)), (
            ("A", "B", "C"), matrix((1, 0, 2), (0, 7, 0), (2, 0, 5)), vector(3, 8, 4), Ratio(15),
        ))

    def test_the_form_of_two_parts_together(self):
        for seed in range(300, 312):
            border = ["m", "Q", "a_1"][:seed % 4]
            first, second = part(seed, 2, border, 4, "x"), part(seed + 50, 3, border, 5, "K")
            joined = self.check(border_form(first, border), border_form(second, border))
            self.check_same(joined, border_form(together(first, second), border))

    def test_parts_with_border_points_of_their_own(self):
        first, second = part(320, 2, ["m", "n"], 4, "x"), part(321, 2, ["n", "b"], 5, "K")
        joined = self.check(border_form(first, ["n", "m"]), border_form(second, ["n", "b"]))
        self.check_same(joined, border_form(together(first, second), ["m", "n", "b"]))


class Least(PartCase):
    def check(self, form, approximations):
        kept, given = form_state(form), dict(approximations)
        told = least_of(form, approximations)
        self.assertEqual((form_state(form), approximations), (kept, given))
        self.assertIs(type(told), tuple)
        heights, value = told
        self.assertIs(type(heights), dict)
        self.assertEqual(set(heights), set(form.names))
        self.assertEqual({type(one) for one in heights.values()} | {type(value)}, {Ratio})
        self.assertEqual(value, value_at(form, heights))
        x = [fraction(heights[name]) for name in form.names]
        # The slope of the form is 0 there, and only along what the form does not see is there another way.
        self.assertEqual([dotted(row, x) for row in fractions(form.matrix)], numbers(form.vector))
        return heights, value

    def test_a_form_of_all_points_tells_the_heights_of_the_net(self):
        for book in samples().values():
            heights, value = self.check(border_form(book, book.points), book.approximations)
            net = net_of(book)
            self.assertEqual(tuple(heights[name] for name in book.points), net.heights())
            self.assertEqual(value, net.squares())

    def test_least_value_of_any_border(self):
        for book in samples().values():
            for border in (book.points[:1], book.points[1::2], book.points[::2]):
                form = border_form(book, border)
                heights, value = self.check(form, book.approximations)
                self.assertEqual(value, net_of(book).squares())

    def test_nearest(self):
        draw = Draw(5)
        for name in ("loop", "two pieces", "points", "drawn few", "unnamed points", "other movements"):
            book = samples()[name]
            form = border_form(book, book.points)
            start = {point: ratio(draw.number()) for point in book.points}
            heights, value = self.check(form, start)
            for movement in net_of(book).movements():
                ways = dict(zip(book.points, numbers(movement)))
                gaps = [fraction(heights[point] - start[point]) * ways[point] for point in book.points]
                self.assertEqual(sum(gaps), 0)

    def test_in_numbers(self):
        form = border_form(samples()["loop"], ["A", "C"])
        self.assertEqual(self.check(form, {"A": Ratio(0), "C": Ratio(0)}), (
            {"A": ratio("-19/7"), "C": ratio("19/7")}, ratio("2/7"),
        ))
        heights, _ = self.check(form, {"C": Ratio(20), "A": Ratio(10), "B": Ratio(99)})
        self.assertEqual(heights, {"A": ratio("86/7"), "C": ratio("124/7")})
        self.assertEqual(least_of(Form((), (), (), Ratio(5)), {}), ({}, Ratio(5)))
        flat = border_form(samples()["points"], ["A", "B"])
        self.assertEqual(self.check(flat, {"A": Ratio(4), "B": Ratio(-7)}), ({"A": Ratio(4), "B": Ratio(-7)}, Ratio(0)))


class Inner(PartCase):
    def check(self, book, heights):
        before, given = state(book), dict(heights)
        told = inner_heights(book, heights)
        self.assertEqual((state(book), heights), (before, given))
        self.assertIs(type(told), dict)
        inner = [name for name in book.points if name not in heights]
        self.assertEqual(set(told), set(inner))
        self.assertTrue(all(type(one) is Ratio for one in told.values()))
        other, _ = held(book, heights)
        self.assertEqual([fraction(told[name]) for name in inner], least_heights(other))
        return told

    def test_all_borders_of_small_books(self):
        for at, book in enumerate(samples().values()):
            draw = Draw(at)
            if len(book.points) <= 5:
                for size in range(len(book.points) + 1):
                    for border in combinations(book.points, size):
                        self.check(book, {name: ratio(draw.number()) for name in reversed(border)})

    def test_larger_books(self):
        for seed in range(330, 336):
            book, draw = drawn(seed, 8, 9, seed % 2 == 0), Draw(seed)
            self.check(book, {name: ratio(draw.number()) for name in book.points if draw.below(2)})
        self.check(full(), {name: Ratio(1) for name in full().points[::2]})

    def test_no_border_tells_the_told_heights(self):
        for book in samples().values():
            told = self.check(book, {})
            self.assertEqual(tuple(told[name] for name in book.points), net_of(book).heights())

    def test_all_points_as_border(self):
        book = samples()["fixed"]
        self.assertEqual(self.check(book, {name: Ratio(1) for name in book.points}), {})
        self.assertEqual(inner_heights(Book(), {}), {})

    def test_in_numbers(self):
        book = samples()["loop"]
        self.assertEqual(self.check(book, {"A": Ratio(0), "C": Ratio(8)}), {"B": Ratio(4)})
        # Without A, the heights of B and C are told by nothing but the readings that are left.
        self.assertEqual(self.check(samples()["two pieces"], {"A": Ratio(5), "B": Ratio(7)}), {
            "X": ratio("17/4"), "Y": ratio("29/4"),
        })

    def test_unknown_points(self):
        book = samples()["fixed"]
        for given, name in (
            (["D"], "D"), (["Z", "D", "A"], "D"), (["b", "ab", "A"], "ab"), (["x", "X", "C"], "X"),
        ):
            self.refuse(name, inner_heights, book, {one: Ratio(0) for one in given})
        self.refuse("A", inner_heights, Book(), {"B": Ratio(0), "A": Ratio(0)})


class WholeSurveys(PartCase):
    def check(self, books, borders):
        """Points 803 to 805: parts adjusted by themselves against the net of the whole; tells whether it moves."""
        whole, form = together(*books), None
        for book, border in zip(books, borders):
            one = border_form(book, border)
            form = one if form is None else join(form, one)
        net = net_of(whole)
        before = net_state(net)
        heights, value = least_of(form, whole.approximations)
        self.assertEqual(value, net.squares())
        found = dict(heights)
        for book, border in zip(books, borders):
            found.update(inner_heights(book, {name: heights[name] for name in border}))
        told = [fraction(found[name]) for name in whole.points]
        self.assertEqual(squares_of(whole, told), fraction(net.squares()))
        if not net.movements():
            self.assertEqual(told, numbers(net.heights()))
        self.assertEqual(net_state(net), before)
        self.check_same(form, border_form(whole, sorted({name for border in borders for name in border})))
        return len(net.movements()) > 0

    def test_two_parts(self):
        found = set()
        for seed in range(340, 360):
            border = ["m", "Q", "a_1"][:1 + seed % 3]
            differences = seed % 2 == 0
            books = [part(seed, 3, border, 6, "x", differences), part(seed + 70, 2, border, 5, "K", differences)]
            found.add(self.check(books, [border, border[::-1]]))
        self.assertEqual(found, {True, False})

    def test_three_parts(self):
        found = set()
        for seed in range(360, 372):
            first, second, third = ["m", "n"], ["n", "b"], ["b", "m", "n"]
            books = [
                part(seed, 2, first, 6, "x", seed % 3 == 0), part(seed + 30, 3, second, 6, "K", seed % 3 == 0),
                part(seed + 60, 1, third, 5, "c", seed % 3 == 0),
            ]
            found.add(self.check(books, [first, second, third]))
        self.assertEqual(found, {True, False})

    def test_parts_without_border(self):
        self.check([part(380, 3, [], 5, "x"), part(381, 2, [], 3, "K")], [[], []])

    def test_parts_without_inner_points_or_readings(self):
        self.check([part(382, 0, ["m", "n"], 3, "x"), part(383, 2, ["m", "n"], 4, "K")], [["m", "n"], ["n", "m"]])
        self.check([part(384, 2, ["m", "n"], 0, "x"), part(385, 2, ["m", "n"], 4, "K")], [["m", "n"], ["n", "m"]])


class Interface(unittest.TestCase):
    def test_form(self):
        told = {"names": ("A",), "matrix": matrix((1,)), "vector": vector(2), "constant": Ratio(3)}
        self.assertEqual(vars(Form(**told)), told)
        self.assertEqual(vars(Form(*told.values())), told)
        self.assertEqual(Form.__module__, "plumbnet.parts")

    def test_functions(self):
        for name, arguments in (
            ("border_form", ["book", "border"]), ("join", ["first", "second"]), ("value_at", ["form", "heights"]),
            ("least_of", ["form", "approximations"]), ("inner_heights", ["book", "heights"]),
        ):
            self.assertEqual(list(inspect.signature(getattr(parts, name)).parameters), arguments)
            self.assertEqual(getattr(parts, name).__module__, "plumbnet.parts")

    def test_heights_may_have_more_names(self):
        form = border_form(samples()["example"], ["B", "A"])
        self.assertEqual(value_at(form, {"A": Ratio(0), "B": Ratio(3), "C": Ratio(9)}), ratio("1/4"))


if __name__ == "__main__":
    unittest.main()
