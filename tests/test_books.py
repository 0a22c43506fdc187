"""Points 2, 3 and 201 to 203, and the interface of plumbnet/books.py."""

import inspect
import unittest

from helpers import book_of, ratio, state, vector
from plumbnet import books
from plumbnet.books import Book, Reading, row_of
from plumbnet.errors import BadReading, DuplicateName, LimitReached, UnknownPoint, UnknownReading
from plumbnet.ratio import Ratio

ONE = Ratio(1)


def small():
    return book_of(
        [("A", 100), ("B", "205/2"), ("C", 0)],
        [("d1", (("A", -1), ("B", 1)), "5/2", 1), ("d2", (("B", 2),), 7, "1/3"), ("d3", (("A", 9),), 900, 4)],
    )


def full_of_points():
    return book_of([(f"p{number}", number) for number in range(12)], [])


def full_of_readings():
    return book_of([("A", 1)], [(f"r{number}", (("A", 1),), number, 1) for number in range(24)])


class BookCase(unittest.TestCase):
    def refuse(self, book, error, attributes, method, *arguments):
        """Expects that a call of a method is refused so, and that it changes nothing."""
        before, readings = state(book), list(book.readings)
        with self.assertRaises(error) as caught:
            getattr(book, method)(*arguments)
        self.assertIs(type(caught.exception), error)
        self.assertEqual(vars(caught.exception), attributes)
        self.assertEqual(state(book), before)
        self.assertTrue(all(one is other for one, other in zip(readings, book.readings)))


class Readings(unittest.TestCase):
    def test_attributes(self):
        terms, value, weight = (("A", -1), ("B", 1)), Ratio(5, 2), Ratio(1, 3)
        for reading in (
            Reading("d1", terms, value, weight),
            Reading(weight=weight, value=value, terms=terms, name="d1"),
        ):
            self.assertEqual(vars(reading), {"name": "d1", "terms": terms, "value": value, "weight": weight})


class EmptyBook(unittest.TestCase):
    def test_kinds(self):
        book = Book()
        self.assertEqual(vars(book), {"points": [], "approximations": {}, "readings": []})

    def test_books_share_nothing(self):
        first, second = Book(), Book()
        first.add_point("A", ONE)
        first.add_reading("d", (("A", 1),), ONE, ONE)
        self.assertEqual(state(second), ([], [], []))


class Points(BookCase):
    def test_order_is_that_of_adding(self):
        book = Book()
        for name in ("b", "a", "C_1", "B"):
            self.assertIsNone(book.add_point(name, ratio("-1/2")))
        self.assertEqual(book.points, ["b", "a", "C_1", "B"])
        self.assertEqual(list(book.approximations), ["b", "a", "C_1", "B"])
        self.assertEqual(set(map(str, book.approximations.values())), {"-1/2"})

    def test_large_and_small_letters_differ(self):
        self.assertEqual(book_of([("a", 1), ("A", 2)], []).points, ["a", "A"])

    def test_twice(self):
        self.refuse(small(), DuplicateName, {"name": "B"}, "add_point", "B", Ratio(7))

    def test_twelve_and_one_more(self):
        book = full_of_points()
        self.assertEqual(len(book.points), 12)
        self.refuse(book, LimitReached, {"what": "points"}, "add_point", "more", ONE)

    def test_twice_is_told_ahead_of_the_limit(self):
        self.refuse(full_of_points(), DuplicateName, {"name": "p11"}, "add_point", "p11", ONE)

    def test_room_again_behind_removing(self):
        book = full_of_points()
        book.remove_point("p3")
        book.add_point("more", ONE)
        self.assertEqual(len(book.points), 12)
        self.assertEqual(book.points[-1], "more")
        self.refuse(book, LimitReached, {"what": "points"}, "add_point", "p3", ONE)

    def test_lengths_of_names_are_not_refused(self):
        book = Book()
        book.add_point("A" * 13, ONE)
        book.add_reading("d" * 13, (("A" * 13, 1),), ONE, ONE)
        self.assertEqual(book.points, ["A" * 13])

    def test_change_approximation(self):
        book = small()
        self.assertIsNone(book.change_approximation("B", ratio("-3/4")))
        self.assertEqual(book.points, ["A", "B", "C"])
        self.assertEqual(list(book.approximations.items()), [("A", ratio(100)), ("B", ratio("-3/4")), ("C", ratio(0))])
        self.assertEqual(state(book)[2], state(small())[2])

    def test_change_approximation_of_an_unknown_point(self):
        for name in ("D", "a", "d1"):
            self.refuse(small(), UnknownPoint, {"name": name}, "change_approximation", name, ONE)

    def test_remove(self):
        book = small()
        self.assertIsNone(book.remove_point("C"))
        self.assertEqual(book.points, ["A", "B"])
        self.assertEqual(list(book.approximations), ["A", "B"])
        self.assertEqual(state(book)[2], state(small())[2])

    def test_remove_and_add_again_puts_it_behind(self):
        book = book_of([("A", 1), ("B", 2), ("C", 3)], [])
        book.remove_point("A")
        book.add_point("A", Ratio(4))
        self.assertEqual(state(book), (["B", "C", "A"], [("B", "2"), ("C", "3"), ("A", "4")], []))

    def test_remove_unknown(self):
        for name in ("D", "d1"):
            self.refuse(small(), UnknownPoint, {"name": name}, "remove_point", name)
        self.refuse(Book(), UnknownPoint, {"name": "A"}, "remove_point", "A")

    def test_remove_used(self):
        for name in ("A", "B"):
            self.refuse(small(), BadReading, {"reason": "used"}, "remove_point", name)

    def test_used_no_more(self):
        book = small()
        book.withdraw("d1")
        self.refuse(book, BadReading, {"reason": "used"}, "remove_point", "B")
        book.withdraw("d2")
        book.remove_point("B")
        self.assertEqual(book.points, ["A", "C"])
        self.refuse(book, BadReading, {"reason": "used"}, "remove_point", "A")
        book.withdraw("d3")
        book.remove_point("A")
        self.assertEqual(state(book), (["C"], [("C", "0")], []))


class AddReading(BookCase):
    def test_order_is_that_of_adding(self):
        book = small()
        terms, value, weight = (("A", 1), ("C", -1)), Ratio(1, 2), Ratio(2)
        self.assertIsNone(book.add_reading("a", terms, value, weight))
        self.assertEqual([one.name for one in book.readings], ["d1", "d2", "d3", "a"])
        added = book.readings[-1]
        self.assertIs(type(added), Reading)
        self.assertEqual((added.name, added.terms, added.value, added.weight), ("a", terms, value, weight))
        self.assertEqual(state(book)[:2], state(small())[:2])

    def test_a_point_may_have_the_same_name(self):
        book = small()
        book.add_reading("A", (("A", 1),), ONE, ONE)
        book.add_point("d1", ONE)
        self.assertEqual([one.name for one in book.readings], ["d1", "d2", "d3", "A"])
        self.assertEqual(book.points, ["A", "B", "C", "d1"])

    def test_twice(self):
        for name in ("d1", "d2", "d3"):
            self.refuse(small(), DuplicateName, {"name": name}, "add_reading", name, (("A", 1),), ONE, ONE)

    def test_allowed_terms(self):
        for terms in (
            (("A", 1),), (("A", -9),), (("C", 9),), (("A", 1), ("B", 1)), (("A", 9), ("B", -9), ("C", 5)),
            (("A", 1), ("C", 1)),
        ):
            book = small()
            book.add_reading("new", terms, ONE, ONE)
            self.assertEqual(book.readings[-1].terms, terms)

    def test_all_coefficients(self):
        for times in range(-12, 13):
            book = small()
            if times != 0 and -9 <= times <= 9:
                book.add_reading("new", (("A", 1), ("B", times)), ONE, ONE)
                self.assertEqual(book.reading("new").terms, (("A", 1), ("B", times)))
            else:
                for terms in ((("A", 1), ("B", times)), (("A", times), ("B", 1)), (("A", times),)):
                    self.refuse(book, BadReading, {"reason": "terms"}, "add_reading", "new", terms, ONE, ONE)

    def test_refused_terms(self):
        for terms in (
            (), (("A", 1), ("A", 1)), (("A", 1), ("B", 1), ("B", 2)), (("B", 1), ("A", 1)),
            (("A", 1), ("C", 1), ("B", 1)), (("B", 1), ("A", 1), ("C", 1)), (("A", 1), ("B", 1), ("A", 1)),
        ):
            self.refuse(small(), BadReading, {"reason": "terms"}, "add_reading", "new", terms, ONE, ONE)

    def test_ascending_as_python_compares(self):
        points = ["B", "B1", "B_", "Ba", "a", "a1", "b"]
        book = book_of([(name, 0) for name in reversed(points)], [])
        book.add_reading("new", tuple((name, 1) for name in points), ONE, ONE)
        for first, second in zip(points, points[1:]):
            self.refuse(
                book, BadReading, {"reason": "terms"}, "add_reading", "other", ((second, 1), (first, 1)), ONE, ONE,
            )

    def test_unknown_points(self):
        for terms, name in (
            ((("D", 1),), "D"), ((("A", 1), ("D", 1)), "D"), ((("A", 1), ("AA", 1), ("B", 1), ("D", 1)), "AA"),
            ((("d1", 1),), "d1"),
        ):
            self.refuse(small(), UnknownPoint, {"name": name}, "add_reading", "new", terms, ONE, ONE)

    def test_weights(self):
        for weight in ("0", "-1", "-1/999999999"):
            self.refuse(
                small(), BadReading, {"reason": "weight"}, "add_reading", "new", (("A", 1),), ONE, ratio(weight),
            )
        book = small()
        book.add_reading("new", (("A", 1),), ratio(-5), ratio("1/999999999"))
        self.assertEqual(book.reading("new").weight, ratio("1/999999999"))

    def test_twenty_four_and_one_more(self):
        book = full_of_readings()
        self.assertEqual(len(book.readings), 24)
        self.refuse(book, LimitReached, {"what": "readings"}, "add_reading", "more", (("A", 1),), ONE, ONE)
        book.withdraw("r0")
        book.add_reading("more", (("A", 1),), ONE, ONE)
        self.assertEqual([one.name for one in book.readings][-2:], ["r23", "more"])

    def test_order_of_the_errors(self):
        bad_terms, unknown, good, light = (("Z", 0),), (("Z", 1),), (("A", 1),), Ratio(0)
        full = full_of_readings()
        for error, attributes, name, terms, weight in (
            (DuplicateName, {"name": "r7"}, "r7", bad_terms, light),
            (DuplicateName, {"name": "r7"}, "r7", unknown, ONE),
            (DuplicateName, {"name": "r7"}, "r7", good, light),
            (DuplicateName, {"name": "r7"}, "r7", good, ONE),
            (BadReading, {"reason": "terms"}, "new", bad_terms, light),
            (BadReading, {"reason": "terms"}, "new", bad_terms, ONE),
            (UnknownPoint, {"name": "Z"}, "new", unknown, light),
            (UnknownPoint, {"name": "Z"}, "new", unknown, ONE),
            (BadReading, {"reason": "weight"}, "new", good, light),
            (LimitReached, {"what": "readings"}, "new", good, ONE),
        ):
            self.refuse(full, error, attributes, "add_reading", name, terms, ONE, weight)


class ChangeReading(BookCase):
    def test_value(self):
        for name, at in (("d1", 0), ("d2", 1), ("d3", 2)):
            book = small()
            old = book.readings[at]
            self.assertIsNone(book.change_value(name, ratio("-8/3")))
            expected = state(small())
            expected[2][at] = (name, old.terms, "-8/3", str(old.weight))
            self.assertEqual(state(book), expected)
            self.assertIs(type(book.readings[at]), Reading)

    def test_weight(self):
        for name, at in (("d1", 0), ("d2", 1), ("d3", 2)):
            book = small()
            old = book.readings[at]
            self.assertIsNone(book.change_weight(name, ratio("8/3")))
            expected = state(small())
            expected[2][at] = (name, old.terms, str(old.value), "8/3")
            self.assertEqual(state(book), expected)

    def test_a_reading_never_changes(self):
        book = small()
        old = book.reading("d2")
        book.change_value("d2", ratio(1))
        book.change_weight("d2", ratio(2))
        self.assertEqual((str(old.value), str(old.weight)), ("7", "1/3"))
        self.assertEqual((str(book.reading("d2").value), str(book.reading("d2").weight)), ("1", "2"))

    def test_unknown(self):
        for name in ("d4", "A", "D1"):
            self.refuse(small(), UnknownReading, {"name": name}, "change_value", name, ONE)
            self.refuse(small(), UnknownReading, {"name": name}, "change_weight", name, ONE)
            self.refuse(small(), UnknownReading, {"name": name}, "change_weight", name, Ratio(0))
        self.refuse(Book(), UnknownReading, {"name": "d1"}, "change_value", "d1", ONE)

    def test_weights_not_allowed(self):
        for weight in (Ratio(0), Ratio(-1), Ratio(-1, 9)):
            self.refuse(small(), BadReading, {"reason": "weight"}, "change_weight", "d2", weight)

    def test_in_a_full_book(self):
        book = full_of_readings()
        book.change_value("r9", ratio(-1))
        book.change_weight("r9", ratio(3))
        self.assertEqual([one.name for one in book.readings], [f"r{number}" for number in range(24)])
        self.assertEqual((str(book.readings[9].value), str(book.readings[9].weight)), ("-1", "3"))

    def test_withdraw(self):
        for at, name in enumerate(("d1", "d2", "d3")):
            book = small()
            self.assertIsNone(book.withdraw(name))
            expected = state(small())
            del expected[2][at]
            self.assertEqual(state(book), expected)
            self.refuse(book, UnknownReading, {"name": name}, "withdraw", name)

    def test_withdraw_unknown(self):
        self.refuse(small(), UnknownReading, {"name": "A"}, "withdraw", "A")

    def test_withdraw_and_add_again_puts_it_behind(self):
        book = small()
        book.withdraw("d1")
        book.add_reading("d1", (("C", 1),), ONE, ONE)
        self.assertEqual([one.name for one in book.readings], ["d2", "d3", "d1"])


class Told(BookCase):
    def test_reading(self):
        book = small()
        for at, name in enumerate(("d1", "d2", "d3")):
            self.assertIs(book.reading(name), book.readings[at])

    def test_unknown_reading(self):
        self.refuse(small(), UnknownReading, {"name": "A"}, "reading", "A")
        self.refuse(Book(), UnknownReading, {"name": "d1"}, "reading", "d1")

    def test_row_of(self):
        book = small()
        for reading, expected in zip(book.readings, (vector(-1, 1, 0), vector(0, 2, 0), vector(9, 0, 0))):
            self.check_row(row_of(book, reading), expected)

    def check_row(self, row, expected):
        self.assertIs(type(row), tuple)
        self.assertEqual({type(one) for one in row}, {Ratio})
        self.assertEqual(row, expected)

    def test_row_of_is_in_the_order_of_the_points(self):
        book = book_of([("C", 1), ("A", 2), ("B", 3)], [("d", (("A", 1), ("B", -2), ("C", 3)), 0, 1)])
        self.check_row(row_of(book, book.reading("d")), vector(3, 1, -2))
        book.add_point("AA", ONE)
        self.check_row(row_of(book, book.reading("d")), vector(3, 1, -2, 0))

    def test_row_of_a_reading_that_is_not_in_the_book(self):
        reading = Reading("other", (("A", 4), ("C", -5)), ONE, ONE)
        self.check_row(row_of(small(), reading), vector(4, 0, -5))


class Twins(BookCase):
    def test_has_the_same(self):
        book = small()
        twin = book.twin()
        self.assertIs(type(twin), Book)
        self.assertIsNot(twin, book)
        self.assertEqual(state(twin), state(book))
        self.assertEqual(state(book), state(small()))
        self.assertEqual(state(Book().twin()), ([], [], []))
        self.assertEqual(set(vars(twin)), {"points", "approximations", "readings"})

    def test_neither_changes_with_the_other(self):
        for method, arguments in (
            ("add_point", ("D", ONE)),
            ("add_reading", ("d4", (("A", 1),), ONE, ONE)),
            ("change_approximation", ("A", ONE)),
            ("change_value", ("d1", ONE)),
            ("change_weight", ("d1", Ratio(7))),
            ("withdraw", ("d1",)),
            ("remove_point", ("C",)),
        ):
            with self.subTest(method):
                book = small()
                twin = book.twin()
                getattr(book, method)(*arguments)
                self.assertEqual(state(twin), state(small()))
                changed, again = state(book), small()
                twin = again.twin()
                getattr(twin, method)(*arguments)
                self.assertEqual(state(again), state(small()))
                self.assertEqual(state(twin), changed)


class Interface(unittest.TestCase):
    def test_methods_stand_in_the_class_with_their_arguments(self):
        for name, arguments in (
            ("add_point", ["name", "approximation"]),
            ("add_reading", ["name", "terms", "value", "weight"]),
            ("change_approximation", ["name", "approximation"]),
            ("change_value", ["name", "value"]),
            ("change_weight", ["name", "weight"]),
            ("withdraw", ["name"]),
            ("remove_point", ["name"]),
            ("reading", ["name"]),
            ("twin", []),
        ):
            self.assertEqual(list(inspect.signature(vars(Book)[name]).parameters), ["self", *arguments])
        self.assertEqual(list(inspect.signature(Reading).parameters), ["name", "terms", "value", "weight"])
        self.assertEqual(list(inspect.signature(row_of).parameters), ["book", "reading"])

    def test_all_is_defined_in_the_file(self):
        for name in ("Reading", "Book", "row_of"):
            self.assertEqual(getattr(books, name).__module__, "plumbnet.books")


if __name__ == "__main__":
    unittest.main()
