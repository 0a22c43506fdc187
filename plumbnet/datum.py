"""Heights in a datum: those of least squares that are nearest at some points alone."""

from plumbnet.books import check_point
from plumbnet.echelon import kernel, solve
from plumbnet.errors import DuplicateName, WeakDatum
from plumbnet.matrices import apply, product, transpose
from plumbnet.vectors import minus, plus, scale, unit


def heights_in(net, names):
    """The heights of a net in the datum of these points."""
    check_datum(net, names)
    places = [net.points.index(name) for name in names]
    check_hold(net, places)
    heights = net.heights()
    movements = net.movements()
    amounts = amounts_to(parts_at(movements, places), parts_at([minus(net.approximations, heights)], places)[0])
    for amount, movement in zip(amounts, movements):
        heights = plus(heights, scale(amount, movement))
    return heights


def check_datum(net, names):
    """Raises an error if a name is no point of the net, or stands a second time."""
    for name in names:
        check_point(net.points, name)
    for at, name in enumerate(names):
        if name in names[:at]:
            raise DuplicateName(name)


def check_hold(net, places):
    """Raises WeakDatum if a movement is 0 at all points of the datum."""
    width = len(net.points)
    rows = [net.row(one) for one in net.readings]
    held = [unit(width, at) for at in places]
    free = kernel((*rows, *held), width)
    if len(free) > 0:
        raise WeakDatum(free[0])


def parts_at(vectors, places):
    """The numbers of each vector at these places."""
    return tuple([tuple([one[at] for at in places]) for one in vectors])


def amounts_to(parts, goal):
    """How much of each part to add so that the sum is as near to the goal as it can be; the parts are independent."""
    many = len(parts)
    square = product(parts, transpose(parts, len(goal)), many)
    return solve(square, many, apply(parts, goal))
