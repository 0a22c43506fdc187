"""Points 2, 3 and 601 to 603, and the interface of plumbnet/datum.py."""

import inspect
import unittest
from fractions import Fraction
from itertools import combinations

from helpers import (
    book_of, dotted, fraction, least_heights, lines_of_book, net_state, null_vectors, numbers, ratio, squares_of,
    vector,
)
from plumbnet import datum
from plumbnet.adjust import Net, net_of
from plumbnet.datum import heights_in
from plumbnet.errors import DuplicateName, UnknownPoint, WeakDatum
from plumbnet.ratio import Ratio
from samples import Draw, drawn, samples


def weak_movement(book, names):
    """The first vector that moves no reading and no point of the datum, or None; by other means than the program's."""
    rows = lines_of_book(book)[0]
    rows += [[Fraction(int(point == name)) for point in book.points] for name in names]
    return next(iter(null_vectors(rows, len(book.points))), None)


class DatumCase(unittest.TestCase):
    def check(self, book, names):
        """Point 601, and point 602 where the datum is weak; tells whether it is."""
        net, given = net_of(book), list(names)
        before = net_state(net)
        movement = weak_movement(book, names)
        if movement is not None:
            self.refuse(net, WeakDatum, {"movement": vector(*movement)}, given)
            return True
        heights = heights_in(net, given)
        self.assertIs(type(heights), tuple)
        self.assertEqual([type(one) for one in heights], [Ratio] * len(book.points))
        self.assertEqual(numbers(heights), least_heights(book, names))
        self.assertEqual(squares_of(book, numbers(heights)), fraction(net.squares()))
        self.assertEqual((net_state(net), given), (before, list(names)))
        difference = [x - y for x, y in zip(numbers(heights), numbers(net.heights()))]
        self.assertEqual([dotted(row, difference) for row in lines_of_book(book)[0]], [0] * len(book.readings))
        return False

    def refuse(self, net, error, attributes, names):
        before, given = net_state(net), list(names)
        with self.assertRaises(error) as caught:
            heights_in(net, given)
        self.assertIs(type(caught.exception), error)
        self.assertEqual(vars(caught.exception), attributes)
        self.assertEqual((net_state(net), given), (before, list(names)))


class Heights(DatumCase):
    def test_every_datum_of_small_nets(self):
        found = set()
        for book in samples().values():
            for size in range(min(4, len(book.points)) + 1):
                for names in combinations(book.points, size):
                    found.add((self.check(book, names), size))
        self.assertLessEqual({(True, 0), (True, 1), (True, 2), (False, 0), (False, 1), (False, 2), (False, 3)}, found)

    def test_drawn_nets(self):
        for seed in range(80, 100):
            book = drawn(seed, 2 + seed % 5, seed % 7, seed % 2 == 0)
            draw = Draw(seed)
            for _ in range(4):
                self.check(book, [name for name in book.points if draw.below(3) > 0])

    def test_all_points_tell_the_told_heights(self):
        for book in samples().values():
            net = net_of(book)
            self.assertEqual(heights_in(net, book.points), net.heights())
            self.assertEqual(heights_in(net, book.points[::-1]), net.heights())

    def test_no_points(self):
        for name in ("empty", "one point", "fixed", "no freedom"):
            net = net_of(samples()[name])
            self.assertEqual(heights_in(net, []), net.heights())
        self.assertEqual(heights_in(Net(), []), ())

    def test_order_of_the_datum_does_not_matter(self):
        net = net_of(samples()["two pieces"])
        told = heights_in(net, ["X", "B", "A"])
        self.assertNotEqual(told, net.heights())
        for names in (["A", "B", "X"], ["B", "A", "X"], ["A", "X", "B"]):
            self.assertEqual(heights_in(net, names), told)

    def test_one_point_keeps_its_approximation(self):
        book = samples()["loop"]
        net = net_of(book)
        for at, name in enumerate(book.points):
            heights = heights_in(net, [name])
            self.assertEqual(heights[at], book.approximations[name])
        self.assertEqual(heights_in(net, ["A"]), vector("38/7", 0, "16/7"))

    def test_approximations_of_other_points_do_not_matter(self):
        book = samples()["loop"]
        told = heights_in(net_of(book), ["A", "B"])
        book.change_approximation("C", Ratio(1000))
        self.assertEqual(heights_in(net_of(book), ["A", "B"]), told)
        book.change_approximation("B", Ratio(1000))
        self.assertNotEqual(heights_in(net_of(book), ["A", "B"]), told)

    def test_movements_that_are_not_alike_at_all_points(self):
        # The only movement is (1, -2, 2): the second point counts four times as much as the first one.
        book = book_of([("A", 0), ("B", 0), ("C", 5)], [
            ("a", (("A", 2), ("B", 1)), 10, 1), ("b", (("B", 1), ("C", 1)), 1, 1),
        ])
        self.assertEqual(heights_in(net_of(book), ["A", "B"]), vector(4, 2, -1))
        self.check(book, ["A", "B"])
        self.check(book, ["B", "C"])

    def test_without_movements_each_datum_tells_the_told_heights(self):
        book = samples()["fixed"]
        for size in range(4):
            for names in combinations(book.points, size):
                self.assertEqual(heights_in(net_of(book), list(names)), net_of(book).heights())


class Refused(DatumCase):
    def test_weak(self):
        net = net_of(samples()["loop"])
        self.refuse(net, WeakDatum, {"movement": vector(1, 1, 1)}, [])
        net = net_of(samples()["two pieces"])
        self.assertEqual(net.points, ["A", "X", "B", "Y"])
        self.refuse(net, WeakDatum, {"movement": vector(1, 0, 1, 0)}, [])
        self.refuse(net, WeakDatum, {"movement": vector(1, 0, 1, 0)}, ["X", "Y"])
        self.refuse(net, WeakDatum, {"movement": vector(0, 1, 0, 1)}, ["B"])
        self.refuse(net_of(samples()["points"]), WeakDatum, {"movement": vector(0, 1)}, ["B"])
        self.refuse(net_of(samples()["points"]), WeakDatum, {"movement": vector(1, 0)}, [])

    def test_weak_although_no_told_movement_is_0_there(self):
        # Both told movements are other than 0 at Q, but their difference is 0 there.
        book = book_of([("A", 1), ("P", 2), ("Q", 3)], [("a", (("A", 1), ("P", 1), ("Q", -1)), 0, 1)])
        net = net_of(book)
        self.assertEqual(net.movements(), [vector(-1, 1, 0), vector(1, 0, 1)])
        self.refuse(net, WeakDatum, {"movement": vector(-1, 1, 0)}, ["Q"])
        self.refuse(net, WeakDatum, {"movement": vector(0, 1, 1)}, ["A"])
        self.refuse(net, WeakDatum, {"movement": vector(1, 0, 1)}, ["P"])
        self.assertFalse(self.check(book, ["A", "P"]))

    def test_unknown(self):
        net = net_of(samples()["fixed"])
        self.refuse(net, UnknownPoint, {"name": "D"}, ["D"])
        self.refuse(net, UnknownPoint, {"name": "Z"}, ["A", "Z", "D"])
        self.refuse(net, UnknownPoint, {"name": "ab"}, ["A", "B", "C", "ab"])
        self.refuse(Net(), UnknownPoint, {"name": "A"}, ["A"])

    def test_twice(self):
        net = net_of(samples()["fixed"])
        self.refuse(net, DuplicateName, {"name": "A"}, ["A", "A"])
        self.refuse(net, DuplicateName, {"name": "B"}, ["A", "B", "B", "A"])
        self.refuse(net, DuplicateName, {"name": "A"}, ["A", "B", "C", "A", "B", "C"])
        self.refuse(net, DuplicateName, {"name": "C"}, ["A", "C", "B", "C", "C", "A"])

    def test_order_of_the_errors(self):
        net = net_of(samples()["two pieces"])
        self.refuse(net, UnknownPoint, {"name": "Z"}, ["A", "A", "Z", "Y", "W"])
        self.refuse(net, UnknownPoint, {"name": "Z"}, ["Z", "Z"])
        self.refuse(net, DuplicateName, {"name": "A"}, ["A", "A"])
        self.refuse(net, WeakDatum, {"movement": vector(0, 1, 0, 1)}, ["A"])


class Interface(unittest.TestCase):
    def test_function(self):
        self.assertEqual(list(inspect.signature(heights_in).parameters), ["net", "names"])
        self.assertEqual(datum.heights_in.__module__, "plumbnet.datum")

    def test_behind_edits(self):
        net = net_of(samples()["loop"])
        net.add_point("D", ratio("7/2"))
        net.withdraw("ab")
        self.assertEqual(heights_in(net, ["A", "B", "D"])[3], ratio("7/2"))
        with self.assertRaises(WeakDatum) as caught:
            heights_in(net, ["A", "B"])
        self.assertEqual(caught.exception.movement, vector(0, 0, 0, 1))


if __name__ == "__main__":
    unittest.main()
