"""Vectors: tuples of Ratios."""

from plumbnet.ratio import Ratio


def dot(a, b):
    """The dot product of two vectors of the same length."""
    total = Ratio(0)
    for x, y in zip(a, b):
        total = total + x * y
    return total


def scale(factor, a):
    """The vector with each number multiplied by the factor."""
    return tuple([factor * x for x in a])


def plus(a, b):
    """The sum of two vectors of the same length."""
    return tuple([x + y for x, y in zip(a, b)])


def minus(a, b):
    """The first vector minus the second one, of the same length."""
    return tuple([x - y for x, y in zip(a, b)])


def zero(width):
    """The vector with 0 everywhere."""
    return tuple([Ratio(0) for _ in range(width)])


def unit(width, index):
    """The vector with 1 at one index and 0 elsewhere."""
    return tuple([Ratio(1) if at == index else Ratio(0) for at in range(width)])


def is_zero(a):
    """True if each number of the vector is 0."""
    return all([x.top == 0 for x in a])
