"""Books of a survey: points with approximations of their heights, and readings."""

from plumbnet.errors import BadReading, DuplicateName, LimitReached, UnknownPoint, UnknownReading
from plumbnet.ratio import Ratio

MOST_POINTS = 12
MOST_READINGS = 24
MOST_TIMES = 9


class Reading:
    """A measured value of a sum of heights with whole coefficients; it never changes."""

    def __init__(self, name, terms, value, weight):
        self.name = name
        self.terms = terms
        self.value = value
        self.weight = weight


class Book:
    """Points and readings, each in the order in which they were added."""

    def __init__(self):
        self.points = []
        self.approximations = {}
        self.readings = []

    def add_point(self, name, approximation):
        """Adds a point behind the others."""
        check_new_point(self.points, name)
        self.points.append(name)
        self.approximations[name] = approximation

    def add_reading(self, name, terms, value, weight):
        """Adds a reading behind the others."""
        check_new_reading(self.readings, name)
        if not are_allowed(terms):
            raise BadReading("terms")
        check_points(self.points, terms)
        check_weight(weight)
        check_room(self.readings)
        self.readings.append(Reading(name, terms, value, weight))

    def change_approximation(self, name, approximation):
        """Gives a point another approximation."""
        check_point(self.points, name)
        self.approximations[name] = approximation

    def change_value(self, name, value):
        """Gives a reading another value."""
        at = place_of(self.readings, name)
        old = self.readings[at]
        # A twin holds the same Reading, so it is replaced instead of changed.
        self.readings[at] = Reading(name, old.terms, value, old.weight)

    def change_weight(self, name, weight):
        """Gives a reading another weight."""
        at = place_of(self.readings, name)
        check_weight(weight)
        old = self.readings[at]
        self.readings[at] = Reading(name, old.terms, old.value, weight)

    def withdraw(self, name):
        """Removes a reading."""
        at = place_of(self.readings, name)
        del self.readings[at]

    def remove_point(self, name):
        """Removes a point that no reading names."""
        check_point(self.points, name)
        if any([names_point(one.terms, name) for one in self.readings]):
            raise BadReading("used")
        self.points.remove(name)
        del self.approximations[name]

    def reading(self, name):
        """The reading of this name."""
        return self.readings[place_of(self.readings, name)]

    def twin(self):
        """A new book with the same points, approximations and readings."""
        other = Book()
        other.points = list(self.points)
        other.approximations = dict(self.approximations)
        other.readings = list(self.readings)
        return other


def row_of(book, reading):
    """The row of a reading whose points are in the book."""
    return row_among(book.points, reading.terms)


def rows_of(book):
    """The matrix of the rows of the readings of a book, in their order."""
    return tuple([row_of(book, reading) for reading in book.readings])


def row_among(points, terms):
    """The coefficients of the terms in the order of the points, 0 for points that they do not name."""
    coefficients = dict(terms)
    return tuple([Ratio(coefficients.get(name, 0)) for name in points])


def are_allowed(terms):
    """True if a reading may have these terms."""
    names = [name for name, _ in terms]
    return (
        len(terms) > 0
        and all([times != 0 and abs(times) <= MOST_TIMES for _, times in terms])
        and all([name < after for name, after in zip(names, names[1:])])
    )


def names_point(terms, point):
    """True if one of the terms has this point."""
    return any([name == point for name, _ in terms])


def check_new_point(points, name):
    """Raises an error if a point of this name cannot be added to the points."""
    if name in points:
        raise DuplicateName(name)
    if len(points) >= MOST_POINTS:
        raise LimitReached("points")


def check_new_reading(readings, name):
    """Raises DuplicateName if one of the readings has this name."""
    if any([one.name == name for one in readings]):
        raise DuplicateName(name)


def check_room(readings):
    """Raises LimitReached if no reading can be added to the readings."""
    if len(readings) >= MOST_READINGS:
        raise LimitReached("readings")


def check_point(points, name):
    """Raises UnknownPoint if the name is not among the points."""
    if name not in points:
        raise UnknownPoint(name)


def check_points(points, terms):
    """Raises UnknownPoint for the first point of the terms that is not among the points."""
    for name, _ in terms:
        check_point(points, name)


def check_weight(weight):
    """Raises BadReading if a reading may not have this weight."""
    if weight.top <= 0:
        raise BadReading("weight")


def place_of(readings, name):
    """The index of the reading of this name; raises UnknownReading if there is none."""
    for at, one in enumerate(readings):
        if one.name == name:
            return at
    raise UnknownReading(name)
