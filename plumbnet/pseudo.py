"""Pseudo-inverses, from nothing and kept when a term of a normal matrix is added or removed."""

from plumbnet.echelon import reduced
from plumbnet.matrices import apply, identity, is_symmetric, outer, product, scaled, sum_of, transpose, zeros
from plumbnet.ratio import Ratio
from plumbnet.vectors import dot, is_zero, minus, scale


def pseudo_inverse(matrix, width):
    """The pseudo-inverse of a matrix with `width` columns."""
    height = len(matrix)
    rows, pivots = reduced(matrix, width)
    count = len(pivots)
    if count == 0:
        return zeros(width, height)
    columns = tuple([tuple([row[at] for at in pivots]) for row in matrix])
    # The matrix is columns times rows; both factors have full rank, so their squares can be inverted.
    turned_rows = transpose(rows, width)
    turned_columns = transpose(columns, count)
    right = product(inverted(product(turned_columns, columns, count)), turned_columns, height)
    return product(turned_rows, product(inverted(product(rows, turned_rows, count)), right, height), height)


def inverted(matrix):
    """The inverse of a square matrix of full rank."""
    width = len(matrix)
    beside = tuple([(*row, *one) for row, one in zip(matrix, identity(width))])
    rows, _ = reduced(beside, 2 * width)
    return tuple([row[width:] for row in rows])


def penrose(matrix, inverse):
    """True if the second matrix is the pseudo-inverse of the first one."""
    height = len(matrix)
    width = len(inverse)
    before = product(matrix, inverse, height)
    behind = product(inverse, matrix, width)
    return (
        product(before, matrix, width) == matrix
        and product(behind, inverse, height) == inverse
        and is_symmetric(before)
        and is_symmetric(behind)
    )


def add_term(matrix, row, weight):
    """The matrix plus weight times row row'; a negative weight removes a term."""
    return sum_of(matrix, scaled(weight, outer(row, row)))


def with_added(matrix, inverse, row, weight):
    """The pseudo-inverse behind adding a term to a normal matrix."""
    image = apply(inverse, row)
    rest = minus(row, apply(matrix, image))
    size = dot(row, image)
    if is_zero(rest):
        return add_term(inverse, image, -weight.over(Ratio(1) + weight * size))
    # The row is no sum of those of the terms so far: the rank grows.
    part = divided(rest, dot(rest, rest))
    return add_term(without_both(inverse, part, image), part, Ratio(1).over(weight) + size)


def with_removed(matrix, inverse, row, weight):
    """The pseudo-inverse behind removing one of the terms of a normal matrix."""
    image = apply(inverse, row)
    left = Ratio(1) - weight * dot(row, image)
    if left.top != 0:
        return add_term(inverse, image, weight.over(left))
    # No sum of the rows of the other terms is this row: the rank falls.
    second = apply(inverse, image)
    part = divided(image, dot(image, image))
    return add_term(without_both(inverse, part, second), part, dot(image, second))


def divided(a, number):
    """The vector with each number divided by a number other than 0."""
    return scale(Ratio(1).over(number), a)


def without_both(matrix, a, b):
    """The matrix minus a b' and minus b a'."""
    both = sum_of(outer(a, b), outer(b, a))
    return sum_of(matrix, scaled(Ratio(-1), both))
