"""Nets: points and readings, and the heights at which the squares of the misfits are least."""

from plumbnet.books import Reading, place_of, row_among
from plumbnet.books import check_new_point, check_new_reading, check_points, check_room, check_weight
from plumbnet.echelon import kernel, span_of
from plumbnet.matrices import apply
from plumbnet.pseudo import add_term, with_added, with_removed
from plumbnet.ratio import Ratio
from plumbnet.vectors import dot, minus, plus, scale, zero


class Net:
    """Points and readings, with the matrices and sums from which the heights are told."""

    def __init__(self):
        self.points = []
        self.approximations = ()
        self.readings = []
        self.normal = ()
        self.inverse = ()
        self.right = ()
        self.total = Ratio(0)

    def add_point(self, name, approximation):
        """Adds a point behind the others."""
        check_new_point(self.points, name)
        self.points.append(name)
        self.approximations = (*self.approximations, approximation)
        self.normal = widened(self.normal)
        self.inverse = widened(self.inverse)
        self.right = (*self.right, Ratio(0))

    def add(self, reading):
        """Adds a reading behind the others."""
        check_new_reading(self.readings, reading.name)
        check_points(self.points, reading.terms)
        check_room(self.readings)
        self.readings.append(reading)
        self._take_in(reading)

    def withdraw(self, name):
        """Removes a reading."""
        at = place_of(self.readings, name)
        old = self.readings[at]
        del self.readings[at]
        self._take_out(old)

    def change_value(self, name, value):
        """Gives a reading another value."""
        at = place_of(self.readings, name)
        old = self.readings[at]
        # The matrices do not depend on values.
        self._add_to_sums(old, -old.weight)
        self.readings[at] = Reading(name, old.terms, value, old.weight)
        self._add_to_sums(self.readings[at], old.weight)

    def change_weight(self, name, weight):
        """Gives a reading another weight."""
        at = place_of(self.readings, name)
        check_weight(weight)
        old = self.readings[at]
        self._take_out(old)
        self.readings[at] = Reading(name, old.terms, old.value, weight)
        self._take_in(self.readings[at])

    def row(self, reading):
        """The row of a reading whose points are in the net."""
        return row_among(self.points, reading.terms)

    def heights(self):
        """The told heights."""
        return plus(self.approximations, apply(self.inverse, self.right))

    def misfits(self):
        """The misfits at the told heights, in the order of the readings."""
        heights = self.heights()
        return tuple([dot(self.row(one), heights) - one.value for one in self.readings])

    def squares(self):
        """The squares at the told heights."""
        return self.total - dot(self.right, apply(self.inverse, self.right))

    def rank(self):
        """The rank of the rows of the readings."""
        return len(self.points) - len(self.movements())

    def movements(self):
        """The vectors along which heights move without changing a misfit."""
        return kernel(self._rows(), len(self.points))

    def shares(self):
        """The shares of the readings, in their order."""
        return tuple([self._share(one) for one in self.readings])

    def paper(self):
        """The told paper: heights, misfits and factors."""
        heights = self.heights()
        factors = span_of(self._rows(), len(self.points), minus(heights, self.approximations))
        return heights, self.misfits(), factors

    def _rows(self):
        return tuple([self.row(one) for one in self.readings])

    def _share(self, reading):
        row = self.row(reading)
        return Ratio(1) - reading.weight * dot(row, apply(self.inverse, row))

    def _take_in(self, reading):
        """Adds the terms of a reading to matrices and sums."""
        row = self.row(reading)
        self.inverse = with_added(self.normal, self.inverse, row, reading.weight)
        self.normal = add_term(self.normal, row, reading.weight)
        self._add_to_sums(reading, reading.weight)

    def _take_out(self, reading):
        """Removes the terms of a reading from matrices and sums."""
        row = self.row(reading)
        self.inverse = with_removed(self.normal, self.inverse, row, reading.weight)
        self.normal = add_term(self.normal, row, -reading.weight)
        self._add_to_sums(reading, -reading.weight)

    def _add_to_sums(self, reading, weight):
        """Adds the terms of a reading to `right` and `total`; a negative weight removes them."""
        row = self.row(reading)
        rest = reading.value - dot(row, self.approximations)
        self.right = plus(self.right, scale(weight * rest, row))
        self.total = self.total + weight * rest * rest


def net_of(book):
    """A net with the points and readings of a book, in their order."""
    net = Net()
    for name in book.points:
        net.add_point(name, book.approximations[name])
    for reading in book.readings:
        net.add(reading)
    return net


def widened(matrix):
    """The square matrix with a row and a column of 0 behind the others."""
    rows = [(*row, Ratio(0)) for row in matrix]
    return (*rows, zero(len(matrix) + 1))
