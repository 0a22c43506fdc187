"""Blunders that hide: errors in values that change no misfit."""

from itertools import combinations

from plumbnet.books import place_of, row_of, rows_of
from plumbnet.echelon import kernel, reduced, solve
from plumbnet.errors import LimitReached
from plumbnet.matrices import transpose
from plumbnet.ratio import Ratio
from plumbnet.vectors import dot

MOST_POINTS = 6
MOST_READINGS = 10


class Claim:
    """The claim that a lot is the least one of a book that hides, with what shows it."""

    def __init__(self, count, lot, shift, movements, bases):
        self.count = count
        self.lot = lot
        self.shift = shift
        self.movements = movements
        self.bases = bases


def hides(book, blunders):
    """The told shift if the lot of blunders hides, otherwise None."""
    check_readings(book, sorted(blunders, key=str))
    numbers = tuple([blunders.get(one.name, Ratio(0)) for one in book.readings])
    return solve(rows_of(book), len(book.points), numbers)


def can_hide(book, names):
    """The told blunders of these readings that hide, and their shift; or None."""
    check_readings(book, names)
    for shift in kernel(rows_without(book, names), len(book.points)):
        blunders = blunders_of(book, shift)
        # A shift without blunders is a movement.
        if len(blunders) > 0:
            return blunders, shift
    return None


def least_hiding(book):
    """The told claim of a small book, or None if it has no readings."""
    if len(book.points) > MOST_POINTS:
        raise LimitReached("points")
    if len(book.readings) > MOST_READINGS:
        raise LimitReached("readings")
    names = [one.name for one in book.readings]
    found = least_lot(book, names)
    if found is None:
        return None
    lot, shift = found
    movements = tuple(kernel(rows_of(book), len(book.points)))
    bases = tuple([(smaller, basis_without(book, smaller)) for smaller in lots_of(names, len(lot) - 1)])
    return Claim(len(lot), lot, shift, movements, bases)


def least_lot(book, names):
    """The least lot of a book with readings of these names and the told shift; None if it has no readings."""
    for count in range(1, len(names) + 1):
        for lot in lots_of(names, count):
            found = can_hide(book, lot)
            if found is not None:
                return lot, found[1]
    return None


def lots_of(names, count):
    """All tuples of so many of the names, in their order."""
    return list(combinations(names, count))


def basis_without(book, names):
    """The names of the readings beside these whose rows are no sums of those of the readings ahead of them."""
    others = [one.name for one in book.readings if one.name not in names]
    rows = rows_without(book, names)
    # A column is a pivot exactly if it is no sum of factors times the columns ahead of it.
    _, pivots = reduced(transpose(rows, len(book.points)), len(rows))
    return tuple([others[at] for at in pivots])


def rows_without(book, names):
    """The rows of the readings beside these."""
    return tuple([row_of(book, one) for one in book.readings if one.name not in names])


def blunders_of(book, shift):
    """The products of the shift and the rows of the readings, without those that are 0, in a dict."""
    products = {one.name: dot(row_of(book, one), shift) for one in book.readings}
    return {name: number for name, number in products.items() if number.top != 0}


def check_readings(book, names):
    """Raises UnknownReading for the first of the names that is no reading of the book."""
    for name in names:
        place_of(book.readings, name)
