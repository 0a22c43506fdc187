"""The texts of books, written and read."""

from plumbnet.books import Book
from plumbnet.errors import BadNumber, BadReading, DuplicateName, LimitReached, ParseError, UnknownPoint
from plumbnet.ratio import Ratio

MOST_SIGNS = 12


def is_name(word):
    """True if the word is a name: 1 to 12 letters, digits and underscores, a letter first."""
    if not word.isascii() or len(word) > MOST_SIGNS:
        return False
    return word[:1].isalpha() and word.replace("_", "0").isalnum()


def print_book(book):
    """The text of a book."""
    lines = ["book"]
    for name in book.points:
        lines.append(f"point {name} {book.approximations[name]}")
    for reading in book.readings:
        lines.append(reading_line(reading))
    lines.append("end")
    return "".join([line + "\n" for line in lines])


def reading_line(reading):
    """The line of a reading."""
    terms = [f"{times} {point}" for point, times in reading.terms]
    return " ".join(["reading", reading.name, str(reading.value), str(reading.weight), *terms])


def parse_book(text):
    """The Book that a text writes."""
    lines = lines_of(text)
    if lines[:1] != ["book"]:
        raise ParseError("book", 1)
    if lines[-1] != "end":
        raise ParseError("end", len(lines))
    book = Book()
    for number, line in enumerate(lines[1:-1], start=2):
        add_line(book, line.split(" "), number)
    return book


def lines_of(text):
    """The lines of a text, without their line feeds."""
    if text != "" and not text.endswith("\n"):
        raise ParseError("line feed", text.count("\n") + 1)
    return text.split("\n")[:-1]


def add_line(book, words, line):
    """Adds what the words of a line write to the book."""
    try:
        if words[0] == "point" and len(words) == 3:
            add_point_line(book, words, line)
        elif words[0] == "reading" and fit_reading(words):
            name, terms, value, weight = reading_parts(words, line)
            book.add_reading(name, terms, value, weight)
        else:
            raise ParseError("words", line)
    except DuplicateName:
        raise ParseError("twice", line) from None
    except UnknownPoint:
        raise ParseError("unknown", line) from None
    except BadReading as error:
        raise ParseError(error.reason, line) from None
    except LimitReached:
        raise ParseError("limit", line) from None


def add_point_line(book, words, line):
    """Adds the point of a line to the book."""
    name = words[1]
    check_names([name], line)
    approximation = number_of(words[2], line)
    if len(book.readings) > 0:
        raise ParseError("order", line)
    book.add_point(name, approximation)


def fit_reading(words):
    """True if the line of a reading can have as many words as these."""
    return len(words) >= 6 and len(words) % 2 == 0


def reading_parts(words, line):
    """The name, the terms, the value and the weight that the words of a reading's line write."""
    points = words[5::2]
    check_names([words[1], *points], line)
    value = number_of(words[2], line)
    weight = number_of(words[3], line)
    coefficients = [coefficient_of(word, line) for word in words[4::2]]
    return words[1], tuple(zip(points, coefficients)), value, weight


def check_names(words, line):
    """Refuses the line if one of the words is not a name."""
    if not all([is_name(word) for word in words]):
        raise ParseError("name", line)


def number_of(word, line):
    """The Ratio that a word writes."""
    try:
        return Ratio.of(word)
    except BadNumber:
        raise ParseError("number", line) from None


def coefficient_of(word, line):
    """The integer that a word writes."""
    number = number_of(word, line)
    if number.bottom != 1:
        raise ParseError("number", line)
    return number.top
