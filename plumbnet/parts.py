"""Parts of a survey: their border forms, and what is told from these."""

from plumbnet.books import check_point, row_among
from plumbnet.matrices import apply, product, scaled, sum_of, zeros
from plumbnet.pseudo import add_term, pseudo_inverse
from plumbnet.ratio import Ratio
from plumbnet.vectors import dot, minus, plus, scale, zero


class Form:
    """A function x' A x - 2 b' x + c of the heights x of some points; it never changes."""

    def __init__(self, names, matrix, vector, constant):
        self.names = names
        self.matrix = matrix
        self.vector = vector
        self.constant = constant


def border_form(book, border):
    """The least squares of a part as a function of the heights of its border points."""
    check_border(book, border)
    names = sorted(border, key=str)
    inner = inner_points(book, border)
    many = len(inner)
    normal, right, total = sums_of(book, [*inner, *names])
    inverse = pseudo_inverse(left_of(normal[:many], many), many)
    # The border by inner part of N times the pseudo-inverse of its inner part.
    carried = product(left_of(normal[many:], many), inverse, many)
    taken = product(carried, right_of(normal[:many], many), len(names))
    matrix = sum_of(right_of(normal[many:], many), scaled(Ratio(-1), taken))
    vector = minus(right[many:], apply(carried, right[:many]))
    constant = total - dot(right[:many], apply(inverse, right[:many]))
    return Form(tuple(names), matrix, vector, constant)


def join(first, second):
    """The form that is the sum of two forms."""
    more = [name for name in second.names if name not in first.names]
    names = tuple(sorted([*first.names, *more], key=str))
    return Form(
        names,
        sum_of(matrix_among(names, first), matrix_among(names, second)),
        plus(vector_among(names, first.names, first.vector), vector_among(names, second.names, second.vector)),
        first.constant + second.constant,
    )


def value_at(form, heights):
    """The value of a form at the heights of its points."""
    x = numbers_of(form.names, heights)
    return dot(x, minus(apply(form.matrix, x), scale(Ratio(2), form.vector))) + form.constant


def least_of(form, approximations):
    """The heights at which the value of a form is least, nearest to the approximations, and the value."""
    start = numbers_of(form.names, approximations)
    heights = dict(zip(form.names, nearest_solution(form.matrix, form.vector, start)))
    return heights, value_at(form, heights)


def inner_heights(book, heights):
    """The inner heights of a part for these heights of its border points."""
    border = sorted(heights, key=str)
    check_border(book, border)
    inner = inner_points(book, border)
    many = len(inner)
    normal, right, _ = sums_of(book, [*inner, *border])
    carried = apply(right_of(normal[:many], many), numbers_of(border, heights))
    start = numbers_of(inner, book.approximations)
    found = nearest_solution(left_of(normal[:many], many), minus(right[:many], carried), start)
    return dict(zip(inner, found))


def check_border(book, names):
    """Raises UnknownPoint for the first of the names that is no point of the book."""
    for name in names:
        check_point(book.points, name)


def inner_points(book, border):
    """The points of a book beside the border points, in their order."""
    return [name for name in book.points if name not in border]


def sums_of(book, order):
    """The sums N, r and t of paragraph 802, with the points in this order."""
    normal = zeros(len(order), len(order))
    right = zero(len(order))
    total = Ratio(0)
    for reading in book.readings:
        row = row_among(order, reading.terms)
        normal = add_term(normal, row, reading.weight)
        right = plus(right, scale(reading.weight * reading.value, row))
        total = total + reading.weight * reading.value * reading.value
    return normal, right, total


def left_of(rows, many):
    """The first so many columns of the rows."""
    return tuple([row[:many] for row in rows])


def right_of(rows, many):
    """The columns of the rows behind the first so many."""
    return tuple([row[many:] for row in rows])


def nearest_solution(matrix, vector, start):
    """Of the vectors whose product with a symmetric matrix is the vector, the one nearest to the start."""
    gap = minus(vector, apply(matrix, start))
    return plus(start, apply(pseudo_inverse(matrix, len(start)), gap))


def numbers_of(names, heights):
    """The heights of these names, a vector."""
    return tuple([heights[name] for name in names])


def vector_among(names, own, vector):
    """The numbers of a vector, told for the names that are its own, in the order of these names; 0 for others."""
    numbers = dict(zip(own, vector))
    return tuple([numbers.get(name, Ratio(0)) for name in names])


def matrix_among(names, form):
    """The matrix of a form with a row and a column for each of these names."""
    rows = {name: vector_among(names, form.names, row) for name, row in zip(form.names, form.matrix)}
    return tuple([rows.get(name, zero(len(names))) for name in names])
