"""Short ways to write vectors, matrices and books in tests."""

import re
from fractions import Fraction

from plumbnet.books import Book
from plumbnet.ratio import Ratio

NAME = r"[A-Za-z][A-Za-z0-9_]{0,11}"


def ratio(value):
    """The Ratio of an integer, a Fraction or a text such as "-7/4"."""
    fraction = Fraction(value)
    return Ratio(fraction.numerator, fraction.denominator)


def vector(*values):
    return tuple(ratio(value) for value in values)


def matrix(*rows):
    return tuple(vector(*row) for row in rows)


def made(height, width, seed):
    """A matrix of this form with many different numbers."""
    return matrix(*[
        [f"{(seed + 7 * row + 3 * column) ** 2 - 50}/{row + 2 * column + 1}" for column in range(width)]
        for row in range(height)
    ])


def fractions(rows):
    """The numbers of a matrix as Python's Fractions, in lists."""
    return [[Fraction(one.top, one.bottom) for one in row] for row in rows]


def times(first, second, width):
    """The product of two lists of rows of Fractions, the second one with `width` columns."""
    return [[sum(x * row[at] for x, row in zip(line, second)) for at in range(width)] for line in first]


def turned(rows, width):
    """The transposed list of rows."""
    return [[row[at] for row in rows] for at in range(width)]


def rank_of(rows, width):
    """The rank of a matrix, by elimination from the last column to the first, in Fractions."""
    left, found = fractions(rows), 0
    for column in reversed(range(width)):
        lead = next((row for row in left if row[column] != 0), None)
        if lead is not None:
            left.remove(lead)
            left = [[x - row[column] / lead[column] * y for x, y in zip(row, lead)] for row in left]
            found += 1
    return found


def book_of(points, readings):
    """A book with points (a name and a value each) and readings (name, terms, value and weight)."""
    book = Book()
    for name, approximation in points:
        book.add_point(name, ratio(approximation))
    for name, terms, value, weight in readings:
        book.add_reading(name, terms, ratio(value), ratio(weight))
    return book


def state(book):
    """All that a book has, in values that stay as they are when the book changes."""
    readings = [(one.name, one.terms, str(one.value), str(one.weight)) for one in book.readings]
    return list(book.points), [(name, str(one)) for name, one in book.approximations.items()], readings


def fraction(one):
    """A Ratio as a Fraction."""
    return Fraction(one.top, one.bottom)


def numbers(given):
    """A vector of Ratios as a list of Fractions."""
    return [fraction(one) for one in given]


def dotted(first, second):
    """The dot product of two lists of Fractions."""
    return sum((x * y for x, y in zip(first, second)), Fraction(0))


def lines_of_book(book):
    """The rows, the values and the weights of the readings, in Fractions."""
    rows = [[Fraction(dict(one.terms).get(name, 0)) for name in book.points] for one in book.readings]
    return rows, [fraction(one.value) for one in book.readings], [fraction(one.weight) for one in book.readings]


def eliminated(rows, width):
    """The reduced rows of a list of rows of Fractions, and their pivots, found from the last row upwards."""
    left, found = [list(row) for row in rows], []
    for column in range(width):
        lead = next((row for row in reversed(left) if row[column] != 0), None)
        if lead is not None:
            left.remove(lead)
            lead = [x / lead[column] for x in lead]
            left = [[x - row[column] * y for x, y in zip(row, lead)] for row in left]
            found = [([x - row[column] * y for x, y in zip(row, lead)], pivot) for row, pivot in found]
            found.append((lead, column))
    return [row for row, _ in found], [pivot for _, pivot in found]


def solution(rows, width, given):
    """The solution of a list of rows that is 0 at the free columns, or None."""
    longer = [[*row, number] for row, number in zip(rows, given)]
    reduced, pivots = eliminated(longer, width + 1)
    if width in pivots:
        return None
    result = [Fraction(0)] * width
    for row, pivot in zip(reduced, pivots):
        result[pivot] = row[width]
    return result


def null_vectors(rows, width):
    """For each free column of a list of rows the vector that is 1 there, 0 at the others, and 0 times each row."""
    reduced, pivots = eliminated(rows, width)
    result = []
    for free in range(width):
        if free not in pivots:
            one = [Fraction(int(at == free)) for at in range(width)]
            for row, pivot in zip(reduced, pivots):
                one[pivot] = -row[free]
            result.append(one)
    return result


def normal_of(rows, weights, width):
    """The sum of weight times row row'."""
    return [
        [sum((w * row[i] * row[j] for row, w in zip(rows, weights)), Fraction(0)) for j in range(width)]
        for i in range(width)
    ]


def least_heights(book, datum=None):
    """The heights with the least squares, nearest at the points of the datum (at all points, if none is given).

    They are found by the conditions of Lagrange, which need no pseudo-inverse: the differences at the datum are
    a sum of rows of the normal matrix.
    """
    names, width = book.points, len(book.points)
    rows, values, weights = lines_of_book(book)
    normal = normal_of(rows, weights, width)
    right = [sum((w * v * row[i] for row, v, w in zip(rows, values, weights)), Fraction(0)) for i in range(width)]
    wanted = [Fraction(int(datum is None or name in datum)) for name in names]
    system = [[*[wanted[i] * (i == j) for j in range(width)], *normal[i]] for i in range(width)]
    system += [[*row, *[Fraction(0)] * width] for row in normal]
    goal = [one * fraction(book.approximations[name]) for one, name in zip(wanted, names)]
    return solution(system, 2 * width, [*goal, *right])[:width]


def squares_of(book, heights):
    """The squares at a list of Fractions."""
    rows, values, weights = lines_of_book(book)
    return sum((w * (dotted(row, heights) - v) ** 2 for row, v, w in zip(rows, values, weights)), Fraction(0))


def net_state(net):
    """All that a net has, in values that stay as they are when the net changes."""
    return (
        list(net.points), net.approximations, [(one.name, one.terms, one.value, one.weight) for one in net.readings],
        net.normal, net.inverse, net.right, net.total,
    )


def is_number(word):
    """True for the written form of a number that can be read, told by other means than the program's."""
    if re.fullmatch(r"-?[0-9]{1,9}(/[0-9]{1,9})?", word) is None or re.search(r"/0+\Z", word):
        return False
    return str(Fraction(word)) == word
