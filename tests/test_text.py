"""Points 201, 204 and 205, and the interface of plumbnet/text.py."""

import inspect
import re
import string
import unittest
from fractions import Fraction

from helpers import NAME, book_of, is_number, state
from plumbnet import text
from plumbnet.books import Book
from plumbnet.errors import ParseError
from plumbnet.text import is_name, parse_book, print_book

EXAMPLE = "book\npoint A 100\npoint B 205/2\nreading d1 5/2 1 -1 A 1 B\nend\n"

LONGER = (
    "book\npoint b 0\npoint A_1 -7/4\npoint a9 999999999/999999998\nreading b -1/3 2/5 9 A_1 -9 a9 3 b\n"
    "reading d_2 0 1 1 b\nreading A_1 -999999999 999999999 -2 A_1 1 b\nend\n"
)

TWELVE_POINTS = [f"point p{number} {number}" for number in range(12)]
READINGS = [f"reading r{number} {number} 1 1 p0" for number in range(24)]


def lines(*between):
    """A text with these lines between the first and the last one."""
    return "".join(line + "\n" for line in ("book", *between, "end"))


class TextCase(unittest.TestCase):
    def refuse(self, written, reason, line):
        with self.subTest(written):
            with self.assertRaises(ParseError) as caught:
                parse_book(written)
            self.assertEqual(vars(caught.exception), {"reason": reason, "line": line})

    def accept(self, written):
        with self.subTest(written):
            book = parse_book(written)
            self.assertIs(type(book), Book)
            self.assertEqual(print_book(book), written)
            return book


class Names(unittest.TestCase):
    def test_lengths(self):
        for one in ("a", "Z", "A_9"):
            for length in range(len(one), 13):
                self.assertIs(is_name(one.ljust(length, "x")), True)
                self.assertIs(is_name(one.ljust(length, "_")), True)
                self.assertIs(is_name(one.ljust(length, "0")), True)
            for length in (13, 14, 100):
                self.assertIs(is_name(one.ljust(length, "x")), False)
        self.assertIs(is_name(""), False)

    def test_each_sign(self):
        for code in range(32, 127):
            sign = chr(code)
            letter = sign in string.ascii_letters
            inside = letter or sign in string.digits or sign == "_"
            self.assertIs(is_name(sign), letter, sign)
            self.assertIs(is_name(sign + "a"), letter, sign)
            self.assertIs(is_name("a" + sign), inside, sign)
            self.assertIs(is_name("A" + sign + "9"), inside, sign)
            self.assertIs(is_name("aaaaaaaaaaa" + sign), inside, sign)

    def test_beginnings(self):
        for word in ("1a", "_a", "_", "9", "0_", "-a", " a", "__", "1"):
            self.assertIs(is_name(word), False, word)

    def test_line_feeds_and_letters_of_other_alphabets(self):
        for word in ("a\n", "\na", "a\nb", "\n", "\u00e4", "a\u00e9", "a\u0663", "\u0391"):
            self.assertIs(is_name(word), False, word)


class Print(unittest.TestCase):
    def test_example(self):
        book = book_of([("A", 100), ("B", "205/2")], [("d1", (("A", -1), ("B", 1)), "5/2", 1)])
        self.assertEqual(print_book(book), EXAMPLE)

    def test_empty(self):
        self.assertEqual(print_book(Book()), "book\nend\n")

    def test_order_is_that_of_adding(self):
        book = book_of([("b", 1), ("A", 2)], [("z", (("b", 1),), 3, 4), ("A", (("A", -9), ("b", 9)), "-1/2", "1/9")])
        self.assertEqual(
            print_book(book), lines("point b 1", "point A 2", "reading z 3 4 1 b", "reading A -1/2 1/9 -9 A 9 b"),
        )
        book.add_point("B", book.approximations["b"])
        book.change_value("z", book.approximations["A"])
        self.assertEqual(print_book(book), lines(
            "point b 1", "point A 2", "point B 1", "reading z 2 4 1 b", "reading A -1/2 1/9 -9 A 9 b",
        ))

    def test_numbers_of_any_size(self):
        many = "1" + "0" * 3999
        book = book_of(
            [("A", 1234567890), ("B", f"-{many}/{'9' * 4000}")], [("d", (("A", 1),), "1/1234567890", 10 ** 20)],
        )
        self.assertEqual(print_book(book), lines(
            "point A 1234567890", f"point B -{many}/{'9' * 4000}", "reading d 1/1234567890 100000000000000000000 1 A",
        ))

    def test_nothing_changes(self):
        book = parse_book(LONGER)
        before = state(book)
        print_book(book)
        self.assertEqual(state(book), before)


class SameBook(TextCase):
    def test_texts_of_books(self):
        for written in (
            EXAMPLE, LONGER, "book\nend\n", lines("point A 0"), lines(*TWELVE_POINTS), lines(*TWELVE_POINTS, *READINGS),
            lines("point book 1", "point end 2", "point point 3", "reading reading 4 5 6 end"),
            lines("point a 1", "reading abcdefghijkl 1 1 1 a"), lines("point abcdefghijkl 1"),
        ):
            self.accept(written)

    def test_what_is_read(self):
        self.assertEqual(state(parse_book(EXAMPLE)), (
            ["A", "B"], [("A", "100"), ("B", "205/2")], [("d1", (("A", -1), ("B", 1)), "5/2", "1")],
        ))
        self.assertEqual(state(parse_book(LONGER)), (
            ["b", "A_1", "a9"],
            [("b", "0"), ("A_1", "-7/4"), ("a9", "999999999/999999998")],
            [
                ("b", (("A_1", 9), ("a9", -9), ("b", 3)), "-1/3", "2/5"),
                ("d_2", (("b", 1),), "0", "1"),
                ("A_1", (("A_1", -2), ("b", 1)), "-999999999", "999999999"),
            ],
        ))

    def test_kinds_of_what_is_read(self):
        book = parse_book(EXAMPLE)
        terms = book.readings[0].terms
        self.assertIs(type(terms), tuple)
        self.assertEqual([(type(one), type(one[0]), type(one[1])) for one in terms], [(tuple, str, int)] * 2)

    def test_a_read_book_can_be_changed(self):
        book = parse_book(EXAMPLE)
        book.withdraw("d1")
        book.remove_point("A")
        self.assertEqual(print_book(book), lines("point B 205/2"))
        self.assertEqual(print_book(parse_book(EXAMPLE)), EXAMPLE)

    def test_books_that_were_changed(self):
        book = parse_book(LONGER)
        book.change_weight("d_2", book.approximations["a9"])
        book.withdraw("b")
        book.remove_point("a9")
        self.assertEqual(state(parse_book(print_book(book))), state(book))


class WholeText(TextCase):
    def test_line_feed(self):
        for written, line in (
            ("book", 1), ("end", 1), ("x", 1), (" ", 1), ("book\nend", 2), ("\nend", 2), ("book\n\nend", 3),
            ("book\nend\n ", 3), (EXAMPLE[:-1], 5), (EXAMPLE + "end", 6), (EXAMPLE + "\nend", 7),
        ):
            self.refuse(written, "line feed", line)

    def test_book(self):
        for written in (
            "", "\n", "\n\n", "end\n", " book\nend\n", "book \nend\n", "Book\nend\n", "boo\nend\n", "books\nend\n",
            "\nbook\nend\n", "point A 1\nend\n", "x\ny\n",
        ):
            self.refuse(written, "book", 1)

    def test_end(self):
        for written, line in (
            ("book\n", 1), ("book\n\n", 2), ("book\nbook\n", 2), ("book\npoint A 1\n", 2), ("book\nend \n", 2),
            ("book\n end\n", 2), ("book\nEnd\n", 2), ("book\nend\n\n", 3), ("book\nend\n\n\n", 4),
            ("book\nend\nx\n", 3), (EXAMPLE + "more\n", 6),
        ):
            self.refuse(written, "end", line)

    def test_whole_text_is_checked_ahead_of_the_lines(self):
        self.refuse("x\n\nx", "line feed", 3)
        self.refuse("x\nwrong\nx\n", "book", 1)
        self.refuse("book\nwrong\nx\n", "end", 3)
        self.refuse("book\nwrong\nend\n", "words", 2)

    def test_lines_are_checked_in_order(self):
        self.refuse(lines("point A 1", "point A 03", "wrong"), "number", 3)
        self.refuse(lines("point A 1", "wrong", "point A 03"), "words", 3)
        self.refuse(lines("point A 1", "point A 2", "", "point 1 1"), "twice", 3)

    def test_book_and_end_between(self):
        self.refuse(lines("end"), "words", 2)
        self.refuse(lines("book"), "words", 2)
        self.refuse(EXAMPLE + EXAMPLE, "words", 5)


class Words(TextCase):
    def test_first_word(self):
        for line in (
            "", " ", "x", "Point A 1", "points A 1", "pointA 1", "A point 1", " point A 1", "Reading d 1 1 1 A",
            "value A 1", "1", "  ", "readings d 1 1 1 A", "read d 1 1 1 A",
        ):
            self.refuse(lines("point A 1", line), "words", 3)

    def test_points(self):
        for line in (
            "point", "point A", "point A 1 2", "point A 1 ", "point  A 1", "point A  1", "point ", "point A 1 1 A B",
        ):
            self.refuse(lines(line), "words", 2)

    def test_readings(self):
        for line in (
            "reading", "reading d", "reading d 1", "reading d 1 1", "reading d 1 1 1", "reading d 1 1 1 A 1",
            "reading d 1 1 1 A ", "reading d 1 1  1 A", " reading d 1 1 1 A", "reading d 1 1 1 A 1 B 1", "reading ",
            "reading  d 1 1 1 A",
        ):
            self.refuse(lines("point A 1", "point B 1", line), "words", 4)

    def test_empty_words_can_make_a_number_of_words_that_fits(self):
        self.refuse(lines("point  1"), "name", 2)
        self.refuse(lines("point A "), "number", 2)
        self.refuse(lines("point  "), "name", 2)
        self.refuse(lines("reading d 1 1 1  1 A"), "name", 2)
        self.refuse(lines("reading d 1 1 1 A  B"), "number", 2)
        self.refuse(lines("reading d 1 1 1 A 1 "), "name", 2)
        self.refuse(lines("reading     "), "name", 2)

    def test_empty_lines(self):
        self.refuse("book\n\nend\n", "words", 2)
        self.refuse("book\npoint A 1\n\npoint B 1\nend\n", "words", 3)

    def test_blanks_of_other_kinds(self):
        self.refuse(lines("point\tA 1"), "words", 2)
        self.refuse(lines("point A 1\r"), "number", 2)


class Parts(TextCase):
    def test_names(self):
        for word in ("1A", "_A", "A-", "A.B", "abcdefghijklm", "100", "-1", "A/2", ""):
            self.refuse(lines(f"point {word} 1"), "name", 2)
            self.refuse(lines("point A 1", f"reading {word} 1 1 1 A"), "name", 3)
            self.refuse(lines("point A 1", f"reading d 1 1 1 {word}"), "name", 3)
            self.refuse(lines("point A 1", f"reading d 1 1 1 A 1 {word}"), "name", 3)
            self.refuse(lines("point A 1", f"reading d 1 1 1 {word} 1 A"), "name", 3)

    def test_numbers(self):
        for word in (
            "03", "-0", "+1", "6/4", "3/1", "1.5", "A", "--1", "1/0", "1000000000", "-1000000000", "1/1000000000",
            "1000000000/3", "1/-2", "",
        ):
            self.refuse(lines(f"point A {word}"), "number", 2)
            self.refuse(lines("point A 1", f"reading d {word} 1 1 A"), "number", 3)
            self.refuse(lines("point A 1", f"reading d 1 {word} 1 A"), "number", 3)
            self.refuse(lines("point A 1", f"reading d 1 1 {word} A"), "number", 3)
            self.refuse(lines("point A 1", "point B 1", f"reading d 1 1 1 A {word} B"), "number", 4)

    def test_numbers_of_nine_digits(self):
        for word in ("999999999", "-999999999", "999999999/999999998", "1/999999999", "-123456789/100000000"):
            self.accept(lines(f"point A {word}"))
            self.accept(lines("point A 1", f"reading d {word} 1 1 A"))
            if not word.startswith("-"):
                self.accept(lines("point A 1", f"reading d 1 {word} 1 A"))

    def test_texts_of_books_with_longer_numbers_are_refused(self):
        for points, readings, line in (
            ([("A", 10 ** 9)], [], 2),
            ([("A", 1), ("B", "1/1234567890")], [], 3),
            ([("A", 1)], [("d", (("A", 1),), 10 ** 9, 1)], 3),
            ([("A", 1)], [("d", (("A", 1),), 1, "1/1000000001")], 3),
        ):
            self.refuse(print_book(book_of(points, readings)), "number", line)

    def test_coefficients_are_integers(self):
        for word in ("1/2", "-7/4", "999999999/2"):
            self.refuse(lines("point A 1", f"reading d 1 1 {word} A"), "number", 3)
            self.refuse(lines("point A 1", "point B 1", f"reading d 1 1 1 A {word} B"), "number", 4)

    def test_order(self):
        self.refuse(lines("point A 1", "reading d 1 1 1 A", "point B 1"), "order", 4)
        self.refuse(lines("point A 1", "reading d 1 1 1 A", "reading e 1 1 1 A", "point B 1"), "order", 5)

    def test_twice(self):
        self.refuse(lines("point A 1", "point A 1"), "twice", 3)
        self.refuse(lines("point A 1", "point B 1", "point A 2"), "twice", 4)
        self.refuse(lines("point A 1", "reading d 1 1 1 A", "reading d 2 1 1 A"), "twice", 4)
        self.refuse(lines("point A 1", *[f"reading {name} 1 1 1 A" for name in "defe"]), "twice", 6)
        self.accept(lines("point A 1", "point d 1", "reading A 1 1 1 d", "reading d 1 1 1 A"))

    def test_terms(self):
        for terms in ("0 A", "10 A", "-10 A", "999999999 A", "1 A 1 A", "1 B 1 A", "1 A 0 B", "1 A 1 B 1 A"):
            self.refuse(lines("point A 1", "point B 1", f"reading d 1 1 {terms}"), "terms", 4)

    def test_unknown(self):
        for terms in ("1 C", "1 A 1 C", "1 d", "1 AA 1 B"):
            self.refuse(lines("point A 1", "point B 1", f"reading d 1 1 {terms}"), "unknown", 4)
        self.refuse(lines("reading d 1 1 1 A"), "unknown", 2)
        self.refuse(lines("reading d 1 1 1 A", "point A 1"), "unknown", 2)

    def test_weight(self):
        for word in ("0", "-1", "-1/999999999"):
            self.refuse(lines("point A 1", f"reading d 1 {word} 1 A"), "weight", 3)

    def test_limit(self):
        self.refuse(lines(*TWELVE_POINTS, "point more 1"), "limit", 14)
        self.refuse(lines(*TWELVE_POINTS, *READINGS, "reading more 1 1 1 p0"), "limit", 38)
        self.refuse(lines("point p0 1", *READINGS, "reading more 1 1 1 p0"), "limit", 27)


class OrderOfReasons(TextCase):
    def test_points(self):
        before = [*TWELVE_POINTS, "reading d 1 1 1 p0"]
        for line, reason in (
            ("Point 1 03", "words"), ("point 1 03 x", "words"), ("point 1 03", "name"), ("point p0 03", "number"),
            ("point p0 1", "order"), ("point more 1", "order"),
        ):
            self.refuse(lines(*before, line), reason, 15)
        self.refuse(lines(*TWELVE_POINTS, "point p0 1"), "twice", 14)

    def test_readings(self):
        full = ["point p0 1", "point p1 1", *READINGS]
        for line, reason in (
            ("Reading 1 03 03 03 1", "words"), ("reading 1 03 03 03 1 1", "words"), ("reading 1 03 03 03 1", "name"),
            ("reading r0 03 03 03 1", "name"), ("reading r0 03 0 0 Z", "number"), ("reading r0 1 03 0 Z", "number"),
            ("reading r0 1 0 03 Z", "number"), ("reading r0 1 0 0 Z", "twice"), ("reading r0 1 0 1 Z", "twice"),
            ("reading r0 1 0 1 p0", "twice"), ("reading r0 1 1 1 p0", "twice"), ("reading more 1 0 0 Z", "terms"),
            ("reading more 1 0 1 p1 1 Z", "terms"), ("reading more 1 0 1 Z 1 p0", "unknown"),
            ("reading more 1 0 1 Zz", "unknown"), ("reading more 1 1 1 Z", "unknown"),
            ("reading more 1 0 1 p0", "weight"), ("reading more 1 1 1 p0", "limit"),
        ):
            self.refuse(lines(*full, line), reason, 28)


def reason_of(written):
    """The reason and the line with which a text of at most 12 points and 24 readings is refused, or None."""
    rows = written.split("\n")
    if written != "" and rows.pop() != "":
        return "line feed", written.count("\n") + 1
    if rows[0] != "book":
        return "book", 1
    if rows[-1] != "end":
        return "end", len(rows)
    points, readings = [], []
    for number, row in enumerate(rows[1:-1], 2):
        reason = reason_of_line(points, readings, row.split(" "))
        if reason is not None:
            return reason, number
    return None


def reason_of_line(points, readings, words):
    kind, size = words[0], len(words)
    if not (kind == "point" and size == 3 or kind == "reading" and size in range(6, 99, 2)):
        return "words"
    is_point = kind == "point"
    names = words[1:2] if is_point else words[1:2] + words[5::2]
    coefficients = [] if is_point else words[4::2]
    numbers = words[2:3] if is_point else words[2:4] + coefficients
    if not all(re.fullmatch(NAME, word) for word in names):
        return "name"
    if not all(map(is_number, numbers)) or "/" in "".join(coefficients):
        return "number"
    if is_point and readings:
        return "order"
    taken = points if is_point else readings
    if names[0] in taken:
        return "twice"
    if not is_point:
        if not all(0 < abs(int(word)) < 10 for word in coefficients) or names[1:] != sorted(set(names[1:])):
            return "terms"
        if not set(names[1:]) <= set(points):
            return "unknown"
        if Fraction(numbers[1]) <= 0:
            return "weight"
    taken.append(names[0])
    return None


class OtherTexts(TextCase):
    def check(self, written):
        expected = reason_of(written)
        if expected is None:
            self.accept(written)
        else:
            self.refuse(written, *expected)

    def test_another_character(self):
        for written in (EXAMPLE, LONGER):
            for at in range(len(written)):
                for other in ("", " ", "\n", "0", "1", "/", "-", "A", "B", "_", written[at] * 2):
                    self.check(written[:at] + other + written[at + 1:])

    def test_shorter_texts(self):
        for at in range(len(LONGER)):
            self.check(LONGER[:at])
            self.check(LONGER[at:])

    def test_other_orders_of_lines(self):
        rows = LONGER.splitlines(keepends=True)
        for first in range(len(rows)):
            self.check("".join(rows[:first] + rows[first + 1:]))
            for second in range(len(rows)):
                changed = list(rows)
                changed[first], changed[second] = changed[second], changed[first]
                self.check("".join(changed))
                self.check("".join(rows[:second] + [rows[first]] + rows[second:]))

    def test_other_orders_of_words(self):
        for at, row in enumerate(LONGER.splitlines()):
            words = row.split(" ")
            for first in range(len(words)):
                for second in range(len(words)):
                    changed = list(words)
                    changed[first] = words[second]
                    rows = LONGER.splitlines()
                    rows[at] = " ".join(changed)
                    self.check("\n".join(rows) + "\n")


class Interface(unittest.TestCase):
    def test_functions(self):
        for name, arguments in (("is_name", ["word"]), ("print_book", ["book"]), ("parse_book", ["text"])):
            self.assertEqual(list(inspect.signature(getattr(text, name)).parameters), arguments)
            self.assertEqual(getattr(text, name).__module__, "plumbnet.text")


if __name__ == "__main__":
    unittest.main()
