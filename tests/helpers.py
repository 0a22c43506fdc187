"""Short ways to write vectors and matrices in tests."""

from fractions import Fraction

from plumbnet.ratio import Ratio


def ratio(value):
    """The Ratio of an integer, a Fraction or a text such as "-7/4"."""
    fraction = Fraction(value)
    return Ratio(fraction.numerator, fraction.denominator)


def vector(*values):
    return tuple(ratio(value) for value in values)


def matrix(*rows):
    return tuple(vector(*row) for row in rows)
