"""Short ways to write vectors, matrices and books in tests."""

from fractions import Fraction

from plumbnet.books import Book
from plumbnet.ratio import Ratio


def ratio(value):
    """The Ratio of an integer, a Fraction or a text such as "-7/4"."""
    fraction = Fraction(value)
    return Ratio(fraction.numerator, fraction.denominator)


def vector(*values):
    return tuple(ratio(value) for value in values)


def matrix(*rows):
    return tuple(vector(*row) for row in rows)


def made(height, width, seed):
    """A matrix of this form with many different numbers."""
    return matrix(*[
        [f"{(seed + 7 * row + 3 * column) ** 2 - 50}/{row + 2 * column + 1}" for column in range(width)]
        for row in range(height)
    ])


def fractions(rows):
    """The numbers of a matrix as Python's Fractions, in lists."""
    return [[Fraction(one.top, one.bottom) for one in row] for row in rows]


def times(first, second, width):
    """The product of two lists of rows of Fractions, the second one with `width` columns."""
    return [[sum(x * row[at] for x, row in zip(line, second)) for at in range(width)] for line in first]


def turned(rows, width):
    """The transposed list of rows."""
    return [[row[at] for row in rows] for at in range(width)]


def rank_of(rows, width):
    """The rank of a matrix, by elimination from the last column to the first, in Fractions."""
    left, found = fractions(rows), 0
    for column in reversed(range(width)):
        lead = next((row for row in left if row[column] != 0), None)
        if lead is not None:
            left.remove(lead)
            left = [[x - row[column] / lead[column] * y for x, y in zip(row, lead)] for row in left]
            found += 1
    return found


def book_of(points, readings):
    """A book with points (a name and a value each) and readings (name, terms, value and weight)."""
    book = Book()
    for name, approximation in points:
        book.add_point(name, ratio(approximation))
    for name, terms, value, weight in readings:
        book.add_reading(name, terms, ratio(value), ratio(weight))
    return book


def state(book):
    """All that a book has, in values that stay as they are when the book changes."""
    readings = [(one.name, one.terms, str(one.value), str(one.weight)) for one in book.readings]
    return list(book.points), [(name, str(one)) for name, one in book.approximations.items()], readings
