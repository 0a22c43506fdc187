"""Functions of the heights: whether readings tell them, their values and how uncertain these are."""

from plumbnet.books import check_points, place_of, row_among
from plumbnet.errors import NotEstimable
from plumbnet.matrices import apply
from plumbnet.pseudo import add_term, with_added, with_removed
from plumbnet.vectors import dot


def estimable(net, terms):
    """True if the function has the same value at all heights with the least squares."""
    return first_changing(net, function_row(net, terms)) is None


def value_of(net, terms):
    """The value of an estimable function at the told heights."""
    return dot(estimable_row(net, terms), net.heights())


def spread(net, terms):
    """The spread of an estimable function."""
    row = estimable_row(net, terms)
    return dot(row, apply(net.inverse, row))


def factors(net, terms):
    """The factors of an estimable function, in the order of the readings."""
    image = apply(net.inverse, estimable_row(net, terms))
    return tuple([one.weight * dot(net.row(one), image) for one in net.readings])


def spread_with(net, terms, reading):
    """The spread of a function with a further reading, or None if it is not estimable then."""
    row = function_row(net, terms)
    check_points(net.points, reading.terms)
    return spread_beside(net, row, reading)


def spread_without(net, terms, name):
    """The spread of a function without the reading of this name, or None if it is not estimable then."""
    row = function_row(net, terms)
    reading = net.readings[place_of(net.readings, name)]
    gone = net.row(reading)
    inverse = with_removed(net.normal, net.inverse, gone, reading.weight)
    return spread_in(add_term(net.normal, gone, -reading.weight), inverse, row)


def best_offer(net, terms, offers):
    """The index of the offered reading with which the spread is least, and this spread; None if no offer counts."""
    row = function_row(net, terms)
    for reading in offers:
        check_points(net.points, reading.terms)
    best = None
    for at, reading in enumerate(offers):
        told = spread_beside(net, row, reading)
        if told is not None and (best is None or told < best[1]):
            best = (at, told)
    return best


def function_row(net, terms):
    """The row of a function; raises UnknownPoint for its first point that is not in the net."""
    check_points(net.points, terms)
    return row_among(net.points, terms)


def estimable_row(net, terms):
    """The row of a function; raises NotEstimable, too."""
    row = function_row(net, terms)
    movement = first_changing(net, row)
    if movement is not None:
        raise NotEstimable(movement)
    return row


def first_changing(net, row):
    """The first movement of the net that changes the function with this row, or None."""
    for movement in net.movements():
        if dot(row, movement).top != 0:
            return movement
    return None


def spread_beside(net, row, reading):
    """The spread of the function with this row in the net and a further reading, or None."""
    # The net itself might refuse the reading for its name or its number, which do not matter here.
    added = net.row(reading)
    inverse = with_added(net.normal, net.inverse, added, reading.weight)
    return spread_in(add_term(net.normal, added, reading.weight), inverse, row)


def spread_in(normal, inverse, row):
    """The spread of the function with this row by a normal matrix and its pseudo-inverse, or None."""
    image = apply(inverse, row)
    # The normal matrix times the image is the row exactly if the row is a sum of those of the readings.
    if apply(normal, image) != row:
        return None
    return dot(row, image)
