"""Reduced rows: rank, kernel, solutions and spans."""

from plumbnet.matrices import transpose
from plumbnet.ratio import Ratio
from plumbnet.vectors import minus, scale, unit, zero


def reduced(matrix, width):
    """The reduced form of a matrix with `width` columns, and the tuple of its pivots."""
    rows = list(matrix)
    pivots = []
    for column in range(width):
        done = len(pivots)
        at = first_with(rows, done, column)
        if at is not None:
            rows[done], rows[at] = rows[at], rows[done]
            rows[done] = scale(Ratio(1).over(rows[done][column]), rows[done])
            rows = cleared(rows, done, column)
            pivots.append(column)
    # All pivots are found, so the rows behind theirs are zero.
    return tuple(rows[:len(pivots)]), tuple(pivots)


def first_with(rows, start, column):
    """The index of the first row from `start` on that is not 0 in the column, or None."""
    for at in range(start, len(rows)):
        if rows[at][column].top != 0:
            return at
    return None


def cleared(rows, lead, column):
    """The rows, of which only the one at `lead` is not 0 in the column; there it has 1."""
    result = []
    for at, row in enumerate(rows):
        if at == lead or row[column].top == 0:
            result.append(row)
        else:
            result.append(minus(row, scale(row[column], rows[lead])))
    return result


def rank(matrix, width):
    """The rank of a matrix with `width` columns."""
    _, pivots = reduced(matrix, width)
    return len(pivots)


def kernel(matrix, width):
    """One vector of the kernel for each free column, in ascending order."""
    rows, pivots = reduced(matrix, width)
    return [kernel_vector(rows, pivots, width, free) for free in range(width) if free not in pivots]


def kernel_vector(rows, pivots, width, free):
    """The vector of the kernel that has 1 at this free column and 0 at the others."""
    numbers = list(unit(width, free))
    for row, pivot in zip(rows, pivots):
        numbers[pivot] = -row[free]
    return tuple(numbers)


def solve(matrix, width, vector):
    """The solution that is 0 at all free columns, or None if there is no solution."""
    longer = tuple([(*row, number) for row, number in zip(matrix, vector)])
    rows, pivots = reduced(longer, width + 1)
    # A pivot in the last column means that a sum of rows is 0 while that of their numbers is not.
    if width in pivots:
        return None
    numbers = list(zero(width))
    for row, pivot in zip(rows, pivots):
        numbers[pivot] = row[width]
    return tuple(numbers)


def span_of(rows, width, vector):
    """A number for each row so that the sum of the rows times them is the vector, or None."""
    return solve(transpose(rows, width), len(rows), vector)
