"""Points 2, 705 and 706, and the interface of plumbnet/hidden_judge.py."""

import inspect
import unittest
from itertools import combinations, permutations

from helpers import book_of, dotted, eliminated, lines_of_book, numbers, ratio, state, vector
from plumbnet import hidden_judge
from plumbnet.books import Book
from plumbnet.hidden import Claim, can_hide, least_hiding
from plumbnet.hidden_judge import takes_hiding
from plumbnet.ratio import Ratio
from plumbnet.vectors import plus, scale
from samples import Draw, drawn, full, samples, written

ONE = Ratio(1)


def small_books():
    """The books of the samples for which there are told claims."""
    return {name: book for name, book in samples().items() if book.readings and len(book.points) <= 6}


def names_of(book):
    return [one.name for one in book.readings]


def with_part(claim, **parts):
    """A claim with other parts."""
    return Claim(**{**vars(claim), **parts})


def with_basis(claim, at, smaller, basis):
    return with_part(claim, bases=claim.bases[:at] + ((smaller, basis),) + claim.bases[at + 1:])


def with_movement(claim, at, movement):
    return with_part(claim, movements=claim.movements[:at] + (movement,) + claim.movements[at + 1:])


def drawn_vector(draw, book):
    return vector(*[draw.pick(["0", "1", "-1", "1/2"]) for _ in book.points])


def is_right(book, claim):
    """Point 705 by other means than the program's."""
    names, width, rows = names_of(book), len(book.points), lines_of_book(book)[0]
    by_name = dict(zip(names, rows))
    shift, movements = numbers(claim.shift), [numbers(one) for one in claim.movements]
    first = (
        claim.count >= 1 and set(claim.lot) <= set(names) and claim.count == len(claim.lot) == len(set(claim.lot))
        and sorted(claim.lot, key=names.index) == list(claim.lot) and len(shift) == width
        and {name for name in names if dotted(by_name[name], shift) != 0} == set(claim.lot)
    )
    if not first or any(len(one) != width or any(dotted(row, one) != 0 for row in rows) for one in movements):
        return False
    for at, one in enumerate(movements):
        others = movements[:at] + movements[at + 1:]
        if not any(one[place] == 1 and not any(other[place] for other in others) for place in range(width)):
            return False
    if [smaller for smaller, _ in claim.bases] != list(combinations(names, claim.count - 1)):
        return False
    for smaller, basis in claim.bases:
        if not set(basis) <= set(names) - set(smaller) or len(basis) != width - len(movements):
            return False
        if [name for name in names if name in basis] != list(basis):
            return False
        if len(eliminated([by_name[name] for name in basis], width)[1]) != len(basis):
            return False
    return True


class JudgeCase(unittest.TestCase):
    def check(self, book, claim, expected):
        before, parts = state(book), dict(vars(claim))
        self.assertIs(takes_hiding(book, claim), expected)
        self.assertEqual((state(book), vars(claim)), (before, parts))
        self.assertEqual(is_right(book, claim), expected)


class RightClaims(JudgeCase):
    def test_told_claims(self):
        for book in small_books().values():
            self.check(book, least_hiding(book), True)
        for seed in range(200, 215):
            book = drawn(seed, 1 + seed % 4, 1 + seed % 7, False)
            self.check(book, least_hiding(book), True)

    def test_the_example(self):
        book = samples()["example"]
        bases = (((), ("d1",)),)
        self.check(book, Claim(1, ("d1",), vector(1, 0), (vector(1, 1),), bases), True)
        self.check(book, Claim(1, ("d1",), vector(0, "-1/7"), (vector(1, 1),), bases), True)

    def test_another_least_lot(self):
        for book in small_books().values():
            claim = least_hiding(book)
            for lot in combinations(names_of(book), claim.count):
                found = can_hide(book, list(lot))
                if found is not None:
                    self.check(book, with_part(claim, lot=lot, shift=found[1]), True)
                else:
                    self.check(book, with_part(claim, lot=lot), False)

    def test_another_shift(self):
        for book in small_books().values():
            claim = least_hiding(book)
            for factor in ("-1", "5/3"):
                shift = scale(ratio(factor), claim.shift)
                for movement in claim.movements:
                    shift = plus(shift, scale(ratio("7/2"), movement))
                self.check(book, with_part(claim, shift=shift), True)

    def test_movements_in_another_order(self):
        for name, many in (("two pieces", 2), ("unnamed points", 3)):
            claim = least_hiding(samples()[name])
            self.assertEqual(len(claim.movements), many)
            for movements in permutations(claim.movements):
                self.check(samples()[name], with_part(claim, movements=movements), True)

    def test_other_movements(self):
        book = samples()["other movements"]
        self.assertEqual(book.points, ["A", "B", "C", "D"])
        claim = least_hiding(book)
        self.assertEqual(claim.movements, (vector("1/2", -1, 1, 0), vector(0, 0, 0, 1)))
        for movements, expected in (
            ((vector(1, -2, 2, 0), vector(0, 0, 0, 1)), True), ((vector("-1/2", 1, -1, 0), vector(0, 0, 0, 1)), True),
            ((vector(0, 0, 0, 1), vector("1/2", -1, 1, 0)), True), ((vector(1, -2, 2, 3), vector(0, 0, 0, 1)), False),
            ((vector(1, -2, 2, 0), vector(3, -6, 6, 1)), False), ((vector(1, -2, 2, 0), vector(0, 0, 0, 2)), False),
            ((vector(2, -4, 4, 0), vector(0, 0, 0, 1)), False),
        ):
            self.check(book, with_part(claim, movements=movements), expected)

    def test_movements_that_share_places(self):
        # Only at its own place are the others 0; elsewhere they may be anything.
        book = book_of([("A", 0), ("P", 0), ("Q", 0)], [("a", (("A", 1), ("P", 1), ("Q", -1)), 1, 1)])
        claim = least_hiding(book)
        for movements, expected in (
            ((vector(-1, 1, 0), vector(1, 0, 1)), True), ((vector(1, 0, 1), vector(0, 1, 1)), True),
            ((vector(1, -1, 0), vector(0, 1, 1)), True), ((vector(-1, 1, 0), vector(0, 1, 1)), False),
            ((vector(1, 0, 1), vector(1, 1, 2)), False), ((vector(1, 5, 6), vector(0, "1/3", "1/3")), False),
        ):
            self.check(book, with_part(claim, movements=movements), expected)

    def test_other_bases(self):
        book = samples()["alike"]
        claim = least_hiding(book)
        for at, (smaller, basis) in enumerate(claim.bases):
            for name in names_of(book):
                self.check(book, with_basis(claim, at, smaller, (name,)), name not in smaller)
        book = samples()["loop"]
        claim = least_hiding(book)
        self.check(book, claim, True)
        self.check(book, with_basis(claim, 0, ("ab",), ("bc", "ac")), True)
        book = samples()["fixed"]
        claim = least_hiding(book)
        for at, (smaller, _) in enumerate(claim.bases):
            taken = 0
            for basis in combinations([name for name in names_of(book) if name not in smaller], 3):
                other = with_basis(claim, at, smaller, basis)
                right = is_right(book, other)
                taken += right
                self.check(book, other, right)
            self.assertGreater(taken, 1)

    def test_books_beyond_the_bounds_of_told_claims(self):
        points = [(f"p{at}", at) for at in range(12)]
        book = book_of(points, [(f"r{at}", ((f"p{at // 2}", 1),), at, 1) for at in range(24)])
        names = names_of(book)
        bases = tuple(
            ((name,), tuple(names[2 * other + (names[2 * other] == name)] for other in range(12))) for name in names
        )
        claim = Claim(2, ("r6", "r7"), vector(0, 0, 0, 5, 0, 0, 0, 0, 0, 0, 0, 0), (), bases)
        self.check(book, claim, True)
        self.check(book, with_part(claim, lot=("r6", "r8")), False)
        self.check(book, with_part(claim, bases=bases[:-1]), False)


class FirstCondition(JudgeCase):
    def setUp(self):
        self.book = samples()["fixed"]
        self.claim = least_hiding(self.book)
        self.assertEqual((self.claim.count, self.claim.lot), (2, ("a", "c")))

    def test_counts(self):
        for book in small_books().values():
            claim = least_hiding(book)
            for count in (-7, -1, 0, claim.count - 1, claim.count + 1, 10 ** 30):
                self.check(book, with_part(claim, count=count), False)

    def test_counts_of_0_and_below_with_all_else_to_match(self):
        for book in [*small_books().values(), Book(), samples()["points"]]:
            for count in (0, -1, -2):
                for bases in ((), (((), ()),)):
                    still = vector(*[0 for _ in book.points])
                    self.check(book, Claim(count, (), still, (), bases), False)

    def test_count_that_fits_a_lot_that_is_not_least(self):
        # All three readings of the loop can hide blunders, but two of them can do it, too.
        book = samples()["loop"]
        shift = vector(1, 0, 3)
        pairs = list(combinations(names_of(book), 2))
        for bases in (tuple((pair, ()) for pair in pairs), tuple((pair, ("ab", "bc")) for pair in pairs), ()):
            self.check(book, Claim(3, ("ab", "bc", "ac"), shift, least_hiding(book).movements, bases), False)

    def test_lot_in_another_order(self):
        self.check(self.book, with_part(self.claim, lot=("c", "a")), False)

    def test_lot_with_a_name_twice(self):
        self.check(self.book, with_part(self.claim, lot=("a", "a")), False)
        self.check(self.book, with_part(self.claim, count=3, lot=("a", "a", "c")), False)
        self.check(self.book, with_part(self.claim, count=3, lot=("a", "c", "c")), False)
        example = samples()["example"]
        single = least_hiding(example)
        self.check(example, with_part(single, lot=("d1", "d1")), False)
        self.check(example, with_part(single, count=2, lot=("d1", "d1")), False)
        self.check(example, with_part(single, count=2, lot=("d1", "d1"), bases=((("d1",), ()),)), False)

    def test_names_that_are_no_readings(self):
        for lot in (("a", "zz"), ("A", "C"), ("a", "c", "zz"), ("zz", "a", "c"), ("", ""), ("a", "")):
            for count in (2, len(lot)):
                self.check(self.book, with_part(self.claim, count=count, lot=lot), False)
        self.check(Book(), Claim(1, ("a",), (), (), (((), ()),)), False)
        self.check(samples()["points"], Claim(1, ("A",), vector(1, 0), (), (((), ()),)), False)

    def test_lots_that_are_too_short_or_too_long(self):
        for lot in ((), ("a",), ("c",), ("a", "ac", "c"), tuple(names_of(self.book))):
            self.check(self.book, with_part(self.claim, lot=lot), False)

    def test_only_the_count_does_not_fit_the_lot(self):
        # All readings of one point hide only together, so lots of two names are smaller ones for the count of 3.
        book = book_of([("A", 0)], [(f"r{at}", (("A", 1),), at, 1) for at in range(3)])
        claim = least_hiding(book)
        self.check(book, claim, True)
        names = tuple(names_of(book))
        for count in (1, 2):
            bases = tuple(
                (smaller, tuple(name for name in names if name not in smaller)[:1])
                for smaller in combinations(names, count - 1)
            )
            self.check(book, with_part(claim, count=count, bases=bases), False)

    def test_lengths_of_the_shift(self):
        for book in small_books().values():
            claim = least_hiding(book)
            for more in (vector(0), vector(1), vector(0, 0)):
                self.check(book, with_part(claim, shift=(*claim.shift, *more)), False)
            for many in range(len(claim.shift)):
                self.check(book, with_part(claim, shift=claim.shift[:many]), False)

    def test_a_product_that_is_0_in_the_lot(self):
        # The shift of one reading does not reach both readings of the lot.
        book = written("point A 0", "point B 0", "reading a 1 1 1 A", "reading b 1 1 1 A", "reading c 1 1 1 B",
                       "reading d 1 1 1 B")
        claim = least_hiding(book)
        self.assertEqual((claim.lot, claim.shift), (("a", "b"), vector(1, 0)))
        self.check(book, with_part(claim, shift=vector(0, 0)), False)
        self.check(book, with_part(claim, shift=vector(0, 1)), False)
        self.check(book, with_part(claim, lot=("a", "c")), False)

    def test_a_product_that_is_not_0_outside_of_the_lot(self):
        self.assertEqual(self.claim.shift, vector(1, 1, 1))
        for shift in (vector(1, 2, 3), vector(1, 2, 1), vector(1, 1, 2), vector(2, 1, 1)):
            self.check(self.book, with_part(self.claim, shift=shift), False)


class SecondCondition(JudgeCase):
    def test_lengths(self):
        for book in small_books().values():
            claim = least_hiding(book)
            for at, movement in enumerate(claim.movements):
                for more in (vector(0), vector(1), vector(0, 0, 5)):
                    self.check(book, with_movement(claim, at, (*movement, *more)), False)
                for many in range(len(movement)):
                    self.check(book, with_movement(claim, at, movement[:many]), False)

    def test_lengths_that_leave_all_places_right(self):
        book = written("point A 0", "point B 0", "point N 0", "reading ab 1 1 1 A -1 B")
        claim = least_hiding(book)
        self.assertEqual(claim.movements, (vector(1, 1, 0), vector(0, 0, 1)))
        self.check(book, with_part(claim, movements=(vector(1, 1), vector(0, 0, 1))), False)
        self.check(book, with_part(claim, movements=(vector(1, 1, 0), vector(0, 0, 1, 0))), False)
        self.check(book, with_part(claim, movements=(vector(1, 1), vector(0, 0, 0, 1))), False)
        self.check(book, with_part(claim, movements=((), vector(0, 0, 1))), False)

    def test_products(self):
        for book in small_books().values():
            claim = least_hiding(book)
            for at, movement in enumerate(claim.movements):
                for place, point in enumerate(book.points):
                    if any(point in dict(one.terms) for one in book.readings):
                        other = movement[:place] + (movement[place] + ONE + ONE,) + movement[place + 1:]
                        self.check(book, with_movement(claim, at, other), False)

    def test_a_movement_that_moves_one_reading(self):
        book = samples()["two pieces"]
        claim = least_hiding(book)
        self.check(book, with_movement(claim, 0, vector(1, 0, 0, 0)), False)
        self.check(book, with_movement(claim, 1, vector(0, 1, 0, 2)), False)

    def test_own_places(self):
        book = samples()["two pieces"]
        claim = least_hiding(book)
        self.assertEqual(claim.movements, (vector(1, 0, 1, 0), vector(0, 1, 0, 1)))
        self.check(book, with_part(claim, movements=claim.movements[::-1]), True)
        for movements in (
            (vector(2, 0, 2, 0), vector(0, 1, 0, 1)), (vector(1, 0, 1, 0), vector(0, -1, 0, -1)),
            (vector(1, 0, 1, 0), vector(1, 1, 1, 1)), (vector(1, 1, 1, 1), vector(0, 1, 0, 1)),
            (vector(1, 0, 1, 0), vector(1, 0, 1, 0)), (vector(1, 0, 1, 0), vector(0, 0, 0, 0)),
            (vector(1, 3, 1, 3), vector(0, 1, 0, 1)), (vector(1, 0, 1, 0), vector(3, 1, 3, 1)),
            (vector(1, 1, 1, 1), vector(-1, 1, -1, 1)), (vector(1, 0, 1, 0), vector(0, "1/2", 0, "1/2")),
        ):
            self.check(book, with_part(claim, movements=movements), False)

    def test_too_few_and_too_many(self):
        for book in small_books().values():
            claim = least_hiding(book)
            still = vector(*[0 for _ in book.points])
            self.check(book, with_part(claim, movements=(*claim.movements, still)), False)
            for at in range(len(claim.movements)):
                left = claim.movements[:at] + claim.movements[at + 1:]
                self.check(book, with_part(claim, movements=left), False)
                self.check(book, with_part(claim, movements=(*claim.movements, claim.movements[at])), False)


class ThirdCondition(JudgeCase):
    def setUp(self):
        self.book = samples()["fixed"]
        self.claim = least_hiding(self.book)
        self.names = names_of(self.book)

    def test_smaller_lots(self):
        for book in small_books().values():
            claim = least_hiding(book)
            bases = claim.bases
            for others in (bases[1:], bases[:-1], (*bases, bases[-1]), (*bases, (("zz",), bases[0][1])), ()):
                self.check(book, with_part(claim, bases=others), False)
            if len(bases) > 1:
                self.check(book, with_part(claim, bases=bases[::-1]), False)
                self.check(book, with_part(claim, bases=(bases[1], bases[0], *bases[2:])), False)
                self.check(book, with_part(claim, bases=(bases[1], bases[1], *bases[2:])), False)

    def test_strange_smaller_lots(self):
        for smaller in ((), ("zz",), ("a", "ab"), ("a", "a"), ("A",), ("",), ("c",)):
            basis = self.claim.bases[0][1]
            self.check(self.book, with_basis(self.claim, 0, smaller, basis), False)

    def test_names_of_a_smaller_lot_in_another_order(self):
        book = book_of([("A", 0)], [(f"r{at}", (("A", 1),), at, 1) for at in range(4)])
        claim = least_hiding(book)
        self.assertEqual(claim.count, 4)
        smaller, basis = claim.bases[0]
        self.assertEqual(smaller, ("r0", "r1", "r2"))
        for other in permutations(smaller):
            self.check(book, with_basis(claim, 0, other, basis), other == smaller)

    def test_every_basis_is_looked_at(self):
        for at, (smaller, basis) in enumerate(self.claim.bases):
            for other in (
                (), basis[:-1], basis[1:], basis[::-1], (basis[1], basis[0], basis[2]), (*basis, basis[-1]),
                (basis[0], basis[0], basis[1]), (*basis[:2], "zz"), ("A", "B", "C"), ("", "", ""), (*basis, "zz"),
            ):
                self.check(self.book, with_basis(self.claim, at, smaller, other), False)

    def test_a_reading_of_the_smaller_lot(self):
        for at, (smaller, _) in enumerate(self.claim.bases):
            for basis in combinations(self.names, 3):
                other = with_basis(self.claim, at, smaller, basis)
                # The three differences depend on each other, and so do the heights of A and C with theirs.
                dependent = basis in (("ab", "bc", "ac"), ("a", "ac", "c"))
                self.check(self.book, other, smaller[0] not in basis and not dependent)

    def test_dependent_rows(self):
        # The three differences of the loop depend on each other.
        self.assertEqual(self.claim.bases[0][0], ("a",))
        self.check(self.book, with_basis(self.claim, 0, ("a",), ("ab", "bc", "ac")), False)
        book = book_of([("A", 0), ("B", 0)], [
            ("a", (("A", 2),), 1, 1), ("b", (("A", 3),), 1, 1), ("c", (("B", 1),), 1, 1), ("d", (("B", 1),), 1, 1),
        ])
        claim = least_hiding(book)
        for at, (smaller, _) in enumerate(claim.bases):
            self.check(book, with_basis(claim, at, smaller, ("a", "b")), False)
            self.check(book, with_basis(claim, at, smaller, ("c", "d")), False)

    def test_too_many_and_too_few_rows(self):
        for at, (smaller, basis) in enumerate(self.claim.bases):
            others = tuple(name for name in self.names if name not in smaller)
            self.assertEqual(len(others), 4)
            self.check(self.book, with_basis(self.claim, at, smaller, others), False)
            for many in (1, 2):
                self.check(self.book, with_basis(self.claim, at, smaller, basis[:many]), False)

    def test_large_counts_of_a_large_book(self):
        # There are 2704156 smaller lots of 12 among 24 readings: a claim without as many is refused at once.
        book = full()
        names = tuple(names_of(book))
        zeros = vector(*[0 for _ in book.points])
        for bases in ((), ((names[:12], names[12:]),)):
            self.check_quick(book, Claim(13, names[:13], zeros, (), bases))
        points = [("A", 0)]
        alike = book_of(points, [(f"r{at}", (("A", 1),), 0, 1) for at in range(24)])
        for at in (12, 13):
            self.check_quick(alike, Claim(at, tuple(names_of(alike))[:at], vector(1), (), ()))
        self.check_quick(alike, Claim(24, tuple(names_of(alike)), vector(1), (), ()))

    def check_quick(self, book, claim):
        self.assertIs(takes_hiding(book, claim), False)

    def test_all_readings_as_the_lot_of_a_large_book(self):
        alike = book_of([("A", 0)], [(f"r{at}", (("A", 1),), 0, 1) for at in range(24)])
        names = names_of(alike)
        bases = tuple((smaller, tuple(set(names) - set(smaller))) for smaller in combinations(names, 23))
        self.check(alike, Claim(24, tuple(names), vector("1/2"), (), bases), True)


class DrawnClaims(JudgeCase):
    def test_changed_parts(self):
        verdicts = set()
        for seed in range(220, 232):
            book = drawn(seed, 1 + seed % 3, 2 + seed % 4, False, 2)
            claim, draw = least_hiding(book), Draw(seed)
            names = names_of(book)
            for _ in range(25):
                other = self.changed(book, claim, names, draw)
                right = is_right(book, other)
                verdicts.add(right)
                self.check(book, other, right)
        self.assertEqual(verdicts, {True, False})

    def changed(self, book, claim, names, draw):
        kind = draw.below(4)
        if kind == 0:
            lot = tuple(name for name in names if draw.below(2))
            return with_part(claim, count=len(lot), lot=lot, shift=drawn_vector(draw, book))
        if kind == 1:
            return with_part(claim, shift=drawn_vector(draw, book))
        if kind == 2:
            return with_part(claim, movements=tuple(drawn_vector(draw, book) for _ in claim.movements))
        at = draw.below(len(claim.bases))
        smaller, basis = claim.bases[at]
        return with_basis(claim, at, smaller, tuple(name for name in names if draw.below(2))[:len(basis)])


class Interface(unittest.TestCase):
    def test_function(self):
        self.assertEqual(list(inspect.signature(takes_hiding).parameters), ["book", "claim"])
        self.assertEqual(hidden_judge.takes_hiding.__module__, "plumbnet.hidden_judge")


if __name__ == "__main__":
    unittest.main()
