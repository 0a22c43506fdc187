"""The judge of papers, who looks at the book and the paper alone."""

from plumbnet.books import row_of, rows_of
from plumbnet.matrices import apply, transpose
from plumbnet.ratio import Ratio
from plumbnet.vectors import dot, is_zero, minus


def fault_of(book, paper):
    """None if the paper is right for the book, otherwise the reason of the first condition that fails."""
    heights, misfits, factors = paper
    if not fits(book, heights, misfits, factors):
        return "size"
    if misfits != misfits_at(book, heights):
        return "misfits"
    pulls = [reading.weight * misfit for reading, misfit in zip(book.readings, misfits)]
    if not is_zero(sum_of_rows(book, pulls)):
        return "least"
    approximations = tuple([book.approximations[name] for name in book.points])
    if minus(heights, approximations) != sum_of_rows(book, factors):
        return "nearest"
    return None


def squares_at(book, heights):
    """The squares at a vector of heights."""
    total = Ratio(0)
    for reading, misfit in zip(book.readings, misfits_at(book, heights)):
        total = total + reading.weight * misfit * misfit
    return total


def fits(book, heights, misfits, factors):
    """True if the vectors of a paper have as many numbers as the book needs."""
    many = len(book.readings)
    return len(heights) == len(book.points) and len(misfits) == many and len(factors) == many


def misfits_at(book, heights):
    """The misfits of the readings at these heights."""
    return tuple([dot(row_of(book, one), heights) - one.value for one in book.readings])


def sum_of_rows(book, factors):
    """The sum of factor times row over the readings, a vector."""
    return apply(transpose(rows_of(book), len(book.points)), factors)
