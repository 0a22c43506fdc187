"""Matrices: tuples of vectors of the same length, their rows."""

from plumbnet.vectors import dot, plus, scale, unit, zero


def transpose(matrix, width):
    """The transposed matrix of a matrix with `width` columns."""
    return tuple([tuple([row[at] for row in matrix]) for at in range(width)])


def apply(matrix, vector):
    """The vector of the dot products of the rows and the vector."""
    return tuple([dot(row, vector) for row in matrix])


def product(first, second, width):
    """The product of two matrices, the second one with `width` columns."""
    columns = transpose(second, width)
    return tuple([apply(columns, row) for row in first])


def identity(width):
    """The square matrix with 1 where row and column are the same and 0 elsewhere."""
    return tuple([unit(width, at) for at in range(width)])


def zeros(height, width):
    """The matrix with 0 everywhere."""
    return tuple([zero(width) for _ in range(height)])


def outer(a, b):
    """The outer product: a row for each number of the first vector."""
    return tuple([scale(x, b) for x in a])


def sum_of(first, second):
    """The sum of two matrices of the same form."""
    return tuple([plus(above, below) for above, below in zip(first, second)])


def scaled(factor, matrix):
    """The matrix with each number multiplied by the factor."""
    return tuple([scale(factor, row) for row in matrix])


def is_symmetric(matrix):
    """True if the matrix is square and its own transposed matrix."""
    width = len(matrix)
    if any([len(row) != width for row in matrix]):
        return False
    return matrix == transpose(matrix, width)
