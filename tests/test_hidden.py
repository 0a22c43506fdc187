"""Points 2, 3 and 701 to 704, 706 and 707, and the interface of plumbnet/hidden.py."""

import inspect
import unittest
from fractions import Fraction
from itertools import combinations

from helpers import (
    book_of, dotted, eliminated, fraction, lines_of_book, null_vectors, numbers, ratio, solution, state, vector,
)
from plumbnet import hidden
from plumbnet.adjust import net_of
from plumbnet.books import Book
from plumbnet.errors import LimitReached, UnknownReading
from plumbnet.hidden import Claim, can_hide, hides, least_hiding
from plumbnet.hidden_judge import takes_hiding
from plumbnet.ratio import Ratio
from samples import Draw, drawn, full, samples


def names_of(book):
    return [one.name for one in book.readings]


def rows_but(book, names):
    """The rows of the readings beside these."""
    rows = lines_of_book(book)[0]
    return [row for row, name in zip(rows, names_of(book)) if name not in names]


def rank_but(book, names):
    return len(eliminated(rows_but(book, names), len(book.points))[1])


def hiding(book, names):
    """What point 703 tells for these names, by other means than the program's."""
    rows = lines_of_book(book)[0]
    for shift in null_vectors(rows_but(book, names), len(book.points)):
        products = {name: dotted(row, shift) for name, row in zip(names_of(book), rows)}
        told = {name: one for name, one in products.items() if one != 0}
        if told:
            return told, shift
    return None


def wrong_values(book, blunders):
    """The book with the values that the blunders make wrong."""
    other = book.twin()
    for name, blunder in blunders.items():
        other.change_value(name, other.reading(name).value + blunder)
    return other


class HiddenCase(unittest.TestCase):
    def refuse(self, error, attributes, called, book, *arguments):
        before, given = state(book), [type(one)(one) for one in arguments]
        with self.assertRaises(error) as caught:
            called(book, *arguments)
        self.assertIs(type(caught.exception), error)
        self.assertEqual(vars(caught.exception), attributes)
        self.assertEqual((state(book), list(arguments)), (before, given))


class Hides(HiddenCase):
    def check(self, book, blunders, expected=None):
        """Points 701 and 702; tells whether the lot hides."""
        before, given = state(book), dict(blunders)
        shift = hides(book, blunders)
        self.assertEqual((state(book), blunders, list(blunders)), (before, given, list(given)))
        rows, goal = lines_of_book(book)[0], [fraction(blunders.get(name, Ratio(0))) for name in names_of(book)]
        told = solution(rows, len(book.points), goal)
        right, wrong = net_of(book), net_of(wrong_values(book, blunders))
        self.assertEqual(right.misfits() == wrong.misfits(), told is not None)
        if told is None:
            self.assertIsNone(shift)
            return False
        self.assertIs(type(shift), tuple)
        self.assertEqual([type(one) for one in shift], [Ratio] * len(book.points))
        self.assertEqual(numbers(shift), told)
        # The heights differ by a shift, perhaps by another one than the told one.
        difference = [x - y for x, y in zip(numbers(wrong.heights()), numbers(right.heights()))]
        self.assertEqual([dotted(row, difference) for row in rows], goal)
        if not right.movements():
            self.assertEqual(difference, told)
        return True

    def test_drawn_lots(self):
        found = set()
        for at, book in enumerate(samples().values()):
            draw = Draw(at + 20)
            for _ in range(10):
                lot = {name: ratio(draw.number()) for name in names_of(book) if draw.below(3) == 0}
                found.add(self.check(book, lot))
        self.assertEqual(found, {True, False})

    def test_lots_that_hide(self):
        for at, book in enumerate(samples().values()):
            draw = Draw(at + 30)
            rows = lines_of_book(book)[0]
            for _ in range(6):
                shift = [Fraction(draw.number()) * draw.below(2) for _ in book.points]
                lot = {name: ratio(dotted(row, shift)) for name, row in zip(names_of(book), rows)}
                self.assertTrue(self.check(book, lot))
                less = {name: one for name, one in lot.items() if one != Ratio(0)}
                self.assertEqual(hides(book, less), hides(book, lot))
                self.check(book, {name: lot[name] for name in sorted(less, reverse=True)})

    def test_no_blunders(self):
        for book in samples().values():
            self.assertEqual(hides(book, {}), vector(*[0 for _ in book.points]))
            self.assertTrue(self.check(book, {}))
            self.assertTrue(self.check(book, {name: Ratio(0) for name in names_of(book)}))

    def test_in_numbers(self):
        loop = samples()["loop"]
        self.assertEqual(loop.points, ["C", "A", "B"])
        self.assertEqual(hides(loop, {"ab": Ratio(2), "bc": Ratio(3), "ac": Ratio(5)}), vector(3, -2, 0))
        self.assertEqual(hides(loop, {"ab": ratio("-1/2"), "bc": ratio("1/2")}), vector("1/2", "1/2", 0))
        self.assertEqual(hides(loop, {"ac": Ratio(1), "ab": Ratio(1), "bc": Ratio(0)}), vector(0, -1, 0))
        self.assertIsNone(hides(loop, {"ab": Ratio(1)}))
        self.assertIsNone(hides(loop, {"ab": Ratio(2), "bc": Ratio(3), "ac": ratio("49/10")}))
        self.assertEqual(hides(samples()["example"], {"d1": ratio("7/3")}), vector("-7/3", 0))
        self.assertEqual(hides(samples()["points"], {}), vector(0, 0))
        self.assertEqual(hides(samples()["empty"], {}), ())

    def test_full_book(self):
        book = full()
        self.assertFalse(self.check(book, {"r7": Ratio(1)}))
        self.assertTrue(self.check(book, {}))

    def test_unknown_readings(self):
        book = samples()["loop"]
        for given, name in (
            ({"zz": Ratio(0)}, "zz"), ({"zz": Ratio(1), "A": Ratio(1)}, "A"),
            ({"ab": Ratio(1), "b": Ratio(1), "aa": Ratio(1)}, "aa"),
            ({"x": Ratio(0), "a": Ratio(0), "X": Ratio(0)}, "X"),
        ):
            self.refuse(UnknownReading, {"name": name}, hides, book, given)
        self.refuse(UnknownReading, {"name": "a"}, hides, Book(), {"b": Ratio(0), "a": Ratio(0)})


class CanHide(HiddenCase):
    def check(self, book, names):
        before, given = state(book), list(names)
        told = can_hide(book, names)
        self.assertEqual((state(book), names), (before, given))
        expected = hiding(book, names)
        self.assertEqual(expected is not None, rank_but(book, names) < rank_but(book, []))
        if expected is None:
            self.assertIsNone(told)
            return False
        self.assertIs(type(told), tuple)
        blunders, shift = told
        self.assertIs(type(blunders), dict)
        self.assertEqual({name: fraction(one) for name, one in blunders.items()}, expected[0])
        self.assertEqual(list(blunders), [name for name in names_of(book) if name in blunders])
        self.assertLessEqual(set(blunders), set(names))
        self.assertIs(type(shift), tuple)
        self.assertEqual(numbers(shift), expected[1])
        self.assertIsNotNone(hides(book, blunders))
        return True

    def test_all_choices(self):
        found = set()
        for book in samples().values():
            if len(book.readings) <= 6:
                for size in range(len(book.readings) + 1):
                    for names in combinations(names_of(book), size):
                        found.add((self.check(book, list(names)), min(size, 3)))
                        self.check(book, list(names)[::-1])
        self.assertEqual(found, {(True, 1), (True, 2), (True, 3), (False, 0), (False, 1), (False, 2), (False, 3)})

    def test_drawn_choices(self):
        for seed in range(130, 145):
            book = drawn(seed, 2 + seed % 5, 5 + seed % 8, seed % 2 == 0)
            draw = Draw(seed)
            for _ in range(5):
                self.check(book, [name for name in names_of(book) if draw.below(2)])

    def test_no_names(self):
        for book in samples().values():
            self.assertIsNone(can_hide(book, []))

    def test_all_names(self):
        for book in samples().values():
            self.assertEqual(self.check(book, names_of(book)), len(book.readings) > 0)

    def test_names_twice(self):
        for name in ("loop", "fixed", "two pieces"):
            book = samples()[name]
            for names in combinations(names_of(book), 2):
                once, twice = can_hide(book, list(names)), can_hide(book, [*names, *names, names[0]])
                self.assertEqual(once, twice)
                self.check(book, [names[0], names[0]])

    def test_in_numbers(self):
        book = samples()["two pieces"]
        self.assertEqual(can_hide(book, ["xy"]), ({"xy": Ratio(-1)}, vector(0, 1, 0, 0)))
        self.assertIsNone(can_hide(book, ["ab"]))
        self.assertEqual(can_hide(book, ["ba", "ab"]), ({"ab": Ratio(-1), "ba": Ratio(1)}, vector(1, 0, 0, 0)))
        self.assertEqual(list(can_hide(book, ["ba", "ab"])[0]), ["ab", "ba"])
        self.assertEqual(can_hide(samples()["example"], ["d1"]), ({"d1": Ratio(-1)}, vector(1, 0)))
        # The first vector moves no reading, so the second one is told.
        unnamed = book_of([("N", 1), ("A", 2)], [("a", (("A", 3),), 1, 1)])
        self.assertEqual(can_hide(unnamed, ["a"]), ({"a": Ratio(3)}, vector(0, 1)))

    def test_the_loop(self):
        book = samples()["loop"]
        for names in combinations(names_of(book), 2):
            self.assertTrue(self.check(book, list(names)))
        for name in names_of(book):
            self.assertFalse(self.check(book, [name]))

    def test_unknown_readings(self):
        book = samples()["loop"]
        for names, name in (
            (["zz"], "zz"), (["ab", "zz", "A"], "zz"), (["ab", "ab", "A", "zz"], "A"), (["bc", "C", "C"], "C"),
        ):
            self.refuse(UnknownReading, {"name": name}, can_hide, book, names)
        self.refuse(UnknownReading, {"name": "b"}, can_hide, Book(), ["b", "a"])


class LeastHiding(HiddenCase):
    def check(self, book):
        """Points 704 and 707, with all lots gone through."""
        before = state(book)
        claim = least_hiding(book)
        self.assertEqual(state(book), before)
        names = names_of(book)
        count = next(size for size in range(1, len(names) + 1) for lot in combinations(names, size)
                     if hiding(book, lot) is not None)
        lot = next(lot for lot in combinations(names, count) if hiding(book, lot) is not None)
        self.assertIs(type(claim), Claim)
        self.assertEqual(set(vars(claim)), {"count", "lot", "shift", "movements", "bases"})
        self.assertEqual((claim.count, claim.lot), (count, lot))
        self.assertEqual((type(claim.count), type(claim.lot), type(claim.shift)), (int, tuple, tuple))
        self.assertEqual(numbers(claim.shift), hiding(book, lot)[1])
        self.assertEqual(list(hiding(book, lot)[0]), list(lot))
        self.assertIs(type(claim.movements), tuple)
        self.assertEqual(list(claim.movements), net_of(book).movements())
        self.assertIs(type(claim.bases), tuple)
        self.assertEqual(claim.bases, tuple(
            (smaller, self.basis(book, smaller)) for smaller in combinations(names, count - 1)
        ))
        self.assertTrue(takes_hiding(book, claim))
        return claim

    def basis(self, book, smaller):
        width, taken, rows = len(book.points), [], []
        for name, row in zip(names_of(book), lines_of_book(book)[0]):
            if name not in smaller and len(eliminated([*rows, row], width)[1]) > len(rows):
                taken.append(name)
                rows.append(row)
        self.assertEqual(len(taken), rank_but(book, []))
        return tuple(taken)

    def test_the_example(self):
        claim = self.check(samples()["example"])
        self.assertEqual((claim.count, claim.lot, claim.shift), (1, ("d1",), vector(1, 0)))
        self.assertEqual((claim.movements, claim.bases), ((vector(1, 1),), (((), ("d1",)),)))

    def test_samples(self):
        counts = set()
        for book in samples().values():
            if 0 < len(book.readings) <= 10 and len(book.points) <= 6:
                counts.add(self.check(book).count)
        self.assertLessEqual({1, 2, 3, 5}, counts)

    def test_drawn(self):
        for seed in range(150, 180):
            book = drawn(seed, 1 + seed % 4, 1 + seed % 7, seed % 4 > 0 and seed % 2 == 0)
            self.check(book)

    def test_loop_in_numbers(self):
        claim = self.check(samples()["loop"])
        self.assertEqual((claim.count, claim.lot, claim.shift), (2, ("ab", "bc"), vector(1, 1, 0)))
        self.assertEqual(claim.movements, (vector(1, 1, 1),))
        self.assertEqual(claim.bases, (
            (("ab",), ("bc", "ac")), (("bc",), ("ab", "ac")), (("ac",), ("ab", "bc")),
        ))

    def test_one_point(self):
        for many in (1, 2, 5, 10):
            book = book_of([("A", 0)], [(f"r{at}", (("A", at % 9 + 1),), at, 1) for at in range(many)])
            claim = self.check(book)
            self.assertEqual((claim.count, claim.lot), (many, tuple(names_of(book))))
            self.assertEqual((claim.shift, claim.movements), (vector(1), ()))

    def test_readings_alike(self):
        claim = self.check(samples()["alike"])
        self.assertEqual(claim.count, 5)
        self.assertEqual(len(claim.bases), 5)
        # Beside three readings alike stands one that no other one checks.
        book = book_of([("A", 0), ("B", 0)], [
            *[(f"r{at}", (("A", 1),), 1, 1) for at in range(3)], ("last", (("A", 1), ("B", -2)), 1, 1),
        ])
        self.assertEqual((self.check(book).count, self.check(book).lot), (1, ("last",)))

    def test_six_points_and_ten_readings(self):
        differences = drawn(181, 6, 10)
        self.assertEqual((len(differences.points), len(differences.readings)), (6, 10))
        self.check(differences)
        # With rows of any numbers six readings are needed to hold six points, so five of the ten can hide.
        draw, names = Draw(182), [f"p{at}" for at in range(6)]
        dense = book_of([(name, 0) for name in names], [
            (f"r{at}", tuple((name, draw.pick([-5, -3, -2, -1, 1, 2, 4, 7])) for name in names), at, 1)
            for at in range(10)
        ])
        claim = self.check(dense)
        self.assertEqual((claim.count, claim.lot), (5, ("r0", "r1", "r2", "r3", "r4")))
        self.assertEqual(len(claim.bases), 210)

    def test_the_first_of_several_lots(self):
        book = book_of([("A", 0), ("B", 0), ("C", 0)], [
            ("z", (("A", 1),), 1, 1), ("y", (("A", 1),), 1, 1), ("x", (("B", 1),), 1, 1), ("w", (("C", 1),), 1, 1),
        ])
        claim = self.check(book)
        self.assertEqual((claim.lot, claim.shift), (("x",), vector(0, 1, 0)))

    def test_no_readings(self):
        self.assertIsNone(least_hiding(Book()))
        for many in (1, 6):
            self.assertIsNone(least_hiding(book_of([(f"p{at}", at) for at in range(many)], [])))

    def test_limits(self):
        points = [(f"p{at}", at) for at in range(7)]
        readings = [(f"r{at}", (("p0", 1),), at, 1) for at in range(11)]
        for book, what in (
            (book_of(points, []), "points"), (book_of(points, readings[:1]), "points"),
            (book_of(points, readings), "points"), (book_of(points[:6], readings), "readings"),
            (book_of(points[:1], readings), "readings"), (full(), "points"),
        ):
            self.refuse(LimitReached, {"what": what}, least_hiding, book)
        self.assertEqual(least_hiding(book_of(points[:6], readings[:10])).count, 10)


class Interface(unittest.TestCase):
    def test_claim(self):
        parts = {"count": 1, "lot": ("a",), "shift": vector(1), "movements": (), "bases": (((), ("a",)),)}
        self.assertEqual(vars(Claim(**parts)), parts)
        self.assertEqual(vars(Claim(*parts.values())), parts)
        self.assertEqual(Claim.__module__, "plumbnet.hidden")

    def test_functions(self):
        for name, arguments in (
            ("hides", ["book", "blunders"]), ("can_hide", ["book", "names"]), ("least_hiding", ["book"]),
        ):
            self.assertEqual(list(inspect.signature(getattr(hidden, name)).parameters), arguments)
            self.assertEqual(getattr(hidden, name).__module__, "plumbnet.hidden")

    def test_results_are_new(self):
        book = samples()["loop"]
        told = can_hide(book, ["ab", "bc"])[0]
        told.clear()
        self.assertEqual(len(can_hide(book, ["ab", "bc"])[0]), 2)


if __name__ == "__main__":
    unittest.main()
