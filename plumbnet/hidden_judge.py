"""The judge of claims about blunders that hide."""

from itertools import combinations
from math import comb

from plumbnet.books import row_of, rows_of
from plumbnet.echelon import rank
from plumbnet.matrices import apply
from plumbnet.ratio import Ratio
from plumbnet.vectors import dot, is_zero


def takes_hiding(book, claim):
    """True if the claim is right for the book."""
    return is_lot(book, claim) and are_movements(book, claim.movements) and are_bases(book, claim)


def is_lot(book, claim):
    """True if count, lot and shift are as paragraph 705 says."""
    names = [one.name for one in book.readings]
    if claim.count < 1 or len(claim.lot) != claim.count or not in_order(names, claim.lot):
        return False
    return len(claim.shift) == len(book.points) and all([
        (dot(row_of(book, one), claim.shift).top != 0) == (one.name in claim.lot) for one in book.readings
    ])


def in_order(names, chosen):
    """True if those chosen are some of the names, in their order, none twice."""
    return list(chosen) == [name for name in names if name in chosen]


def are_movements(book, movements):
    """True if the vectors move no reading, and each has a place of its own."""
    width = len(book.points)
    rows = rows_of(book)
    # All lengths are checked first, because places are compared across the vectors.
    if any([len(one) != width for one in movements]):
        return False
    return all([is_zero(apply(rows, one)) for one in movements]) and all([
        has_own_place(movements, at, width) for at in range(len(movements))
    ])


def has_own_place(movements, at, width):
    """True if this movement is 1 at some place at which all others are 0."""
    others = [one for other, one in enumerate(movements) if other != at]
    return any([
        movements[at][place] == Ratio(1) and all([one[place].top == 0 for one in others]) for place in range(width)
    ])


def are_bases(book, claim):
    """True if there is a right basis for each smaller lot, in order."""
    names = [one.name for one in book.readings]
    size = claim.count - 1
    # Of large books the smaller lots may be too many to be listed for a claim that has not as many.
    if len(claim.bases) != comb(len(names), size):
        return False
    if [smaller for smaller, _ in claim.bases] != lots_of(names, size):
        return False
    needed = len(book.points) - len(claim.movements)
    return all([is_basis(book, smaller, basis, needed) for smaller, basis in claim.bases])


def lots_of(names, size):
    """All tuples of so many of the names, in their order."""
    return list(combinations(names, size))


def is_basis(book, smaller, basis, needed):
    """True if the basis names as many independent readings as are needed, in their order, none of the smaller lot."""
    others = [one.name for one in book.readings if one.name not in smaller]
    if len(basis) != needed or not in_order(others, basis):
        return False
    rows = tuple([row_of(book, one) for one in book.readings if one.name in basis])
    return rank(rows, len(book.points)) == needed
