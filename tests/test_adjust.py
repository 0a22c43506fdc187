"""Points 2, 3, 105 and 501 to 508, and the interface of plumbnet/adjust.py."""

import inspect
import unittest
from fractions import Fraction

from helpers import (
    book_of, dotted, eliminated, fraction, fractions, least_heights, lines_of_book, matrix, net_state, normal_of,
    null_vectors, numbers, rank_of, ratio, solution, squares_of, state, times, turned, vector,
)
from plumbnet import adjust
from plumbnet.adjust import Net, net_of
from plumbnet.books import Book, Reading
from plumbnet.errors import BadReading, DuplicateName, LimitReached, UnknownPoint, UnknownReading
from plumbnet.judge import fault_of, squares_at
from plumbnet.ratio import Ratio
from samples import Draw, drawn, full, samples

ONE = Ratio(1)


def a_reading(name, terms=(("A", 1),), value="1", weight="1"):
    return Reading(name, terms, ratio(value), ratio(weight))


def fixed():
    return net_of(samples()["fixed"])


def book_like(net):
    """A book with the points and readings of a net."""
    book = Book()
    for name, approximation in zip(net.points, net.approximations):
        book.add_point(name, approximation)
    for one in net.readings:
        book.add_reading(one.name, one.terms, one.value, one.weight)
    return book


class NetCase(unittest.TestCase):
    def check_vector(self, given, length):
        self.assertIs(type(given), tuple)
        self.assertEqual([type(one) for one in given], [Ratio] * length)

    def check_matrix(self, given, height, width):
        self.assertIs(type(given), tuple)
        self.assertEqual(len(given), height)
        for row in given:
            self.check_vector(row, width)

    def check_net(self, net, book):
        """Points 501 to 506 for a net that should have the points and readings of the book."""
        self.check_kept(net, book)
        self.check_told(net, book)
        self.check_movements(net, book)
        self.check_shares(net, book)
        self.check_paper(net, book)

    def check_kept(self, net, book):
        width = len(book.points)
        self.assertEqual(net.points, book.points)
        self.assertIs(type(net.points), list)
        self.assertEqual(net.approximations, tuple(book.approximations[name] for name in book.points))
        self.assertIs(type(net.readings), list)
        self.assertEqual([type(one) for one in net.readings], [Reading] * len(book.readings))
        self.assertEqual(net_state(net)[2], [(one.name, one.terms, one.value, one.weight) for one in book.readings])
        self.check_matrix(net.normal, width, width)
        self.check_matrix(net.inverse, width, width)
        self.check_vector(net.right, width)
        self.assertIs(type(net.total), Ratio)
        rows, values, weights = lines_of_book(book)
        start = numbers(net.approximations)
        gaps = [value - dotted(row, start) for row, value in zip(rows, values)]
        self.assertEqual(fractions(net.normal), normal_of(rows, weights, width))
        self.assertEqual(numbers(net.right), [
            sum((w * d * row[at] for row, w, d in zip(rows, weights, gaps)), Fraction(0)) for at in range(width)
        ])
        self.assertEqual(fraction(net.total), sum((w * d * d for w, d in zip(weights, gaps)), Fraction(0)))
        m, p = fractions(net.normal), fractions(net.inverse)
        before, behind = times(m, p, width), times(p, m, width)
        self.assertEqual(times(before, m, width), m)
        self.assertEqual(times(behind, p, width), p)
        self.assertEqual(turned(before, width), before)
        self.assertEqual(turned(behind, width), behind)

    def check_told(self, net, book):
        rows, values, weights = lines_of_book(book)
        heights, misfits = net.heights(), net.misfits()
        self.check_vector(heights, len(book.points))
        self.check_vector(misfits, len(book.readings))
        self.assertEqual(numbers(heights), least_heights(book))
        self.assertEqual(numbers(misfits), [dotted(row, numbers(heights)) - v for row, v in zip(rows, values)])
        for at in range(len(book.points)):
            pulls = [w * m * row[at] for row, w, m in zip(rows, weights, numbers(misfits))]
            self.assertEqual(sum(pulls), 0)
        self.assertIs(type(net.squares()), Ratio)
        self.assertEqual(fraction(net.squares()), squares_of(book, numbers(heights)))
        for one, row in zip(net.readings, rows):
            self.check_vector(net.row(one), len(book.points))
            self.assertEqual(numbers(net.row(one)), row)

    def check_movements(self, net, book):
        width = len(book.points)
        movements = net.movements()
        self.assertIs(type(movements), list)
        for one in movements:
            self.check_vector(one, width)
        rows = lines_of_book(book)[0]
        self.assertEqual([numbers(one) for one in movements], null_vectors(rows, width))
        self.assertEqual(net.rank(), len(eliminated(rows, width)[1]))
        self.assertEqual(net.rank() + len(movements), width)
        self.assertIs(type(net.rank()), int)

    def check_shares(self, net, book):
        shares = net.shares()
        self.check_vector(shares, len(book.readings))
        rows = lines_of_book(book)[0]
        width = len(book.points)
        self.assertEqual(sum(numbers(shares)), len(book.readings) - net.rank())
        p = fractions(net.inverse)
        for at, (one, share) in enumerate(zip(net.readings, numbers(shares))):
            image = [dotted(row, rows[at]) for row in p]
            self.assertEqual(share, 1 - fraction(one.weight) * dotted(rows[at], image))
            self.assertTrue(0 <= share <= 1)
            others = rows[:at] + rows[at + 1:]
            falls = len(eliminated(others, width)[1]) < net.rank()
            self.assertEqual(share == 0, falls)
            if falls:
                self.assertEqual(net.misfits()[at], Ratio(0))

    def check_paper(self, net, book):
        paper = net.paper()
        self.assertIs(type(paper), tuple)
        heights, misfits, factors = paper
        self.assertEqual(heights, net.heights())
        self.assertEqual(misfits, net.misfits())
        self.check_vector(factors, len(book.readings))
        rows = lines_of_book(book)[0]
        gap = [x - y for x, y in zip(numbers(heights), numbers(net.approximations))]
        self.assertEqual(numbers(factors), solution(turned(rows, len(book.points)), len(rows), gap))
        self.assertIsNone(fault_of(book, paper))

    def check_same(self, net, other):
        self.assertEqual(net_state(net), net_state(other))
        for told in ("heights", "misfits", "squares", "rank", "movements", "shares", "paper"):
            self.assertEqual(getattr(net, told)(), getattr(other, told)())

    def refuse(self, net, error, attributes, method, *arguments):
        """Expects that a call of a method is refused so, and that it changes nothing."""
        before, readings = net_state(net), list(net.readings)
        with self.assertRaises(error) as caught:
            getattr(net, method)(*arguments)
        self.assertIs(type(caught.exception), error)
        self.assertEqual(vars(caught.exception), attributes)
        self.assertEqual(net_state(net), before)
        self.assertTrue(all(one is other for one, other in zip(readings, net.readings)))


class Told(NetCase):
    def test_empty(self):
        net = Net()
        self.assertEqual(vars(net), {
            "points": [], "approximations": (), "readings": [], "normal": (), "inverse": (), "right": (),
            "total": Ratio(0),
        })
        self.assertEqual((net.heights(), net.misfits(), net.squares()), ((), (), Ratio(0)))
        self.assertEqual((net.rank(), net.movements(), net.shares(), net.paper()), (0, [], (), ((), (), ())))

    def test_all_kinds_of_nets(self):
        ranks = set()
        for name, book in samples().items():
            with self.subTest(name):
                before = state(book)
                net = net_of(book)
                self.assertIs(type(net), Net)
                self.check_net(net, book)
                self.assertEqual(state(book), before)
                ranks.add((len(book.points) - net.rank(), net.rank() > 0))
        self.assertLessEqual({(0, False), (0, True), (1, True), (2, True), (2, False)}, ranks)

    def test_drawn_nets(self):
        for seed in range(10, 40):
            book = drawn(seed, 1 + seed % 6, seed % 9, seed % 2 == 0 and seed % 6 > 0)
            self.check_net(net_of(book), book)

    def test_full_net(self):
        book = full()
        net = net_of(book)
        self.assertEqual((len(net.points), len(net.readings)), (12, 24))
        self.check_net(net, book)

    def test_points_alone(self):
        net = net_of(samples()["points"])
        self.assertEqual(net.points, ["B", "A"])
        self.assertEqual(net.heights(), vector(3, "-1/2"))
        self.assertEqual((net.squares(), net.rank(), net.shares()), (Ratio(0), 0, ()))
        self.assertEqual(net.movements(), [vector(1, 0), vector(0, 1)])

    def test_one_point_in_numbers(self):
        # The weights 1, 2 and 1/3 times 2 times 2 pull towards 3, 4 and 7/2.
        net = net_of(samples()["one point"])
        self.assertEqual(net.normal, matrix(("13/3",)))
        self.assertEqual(net.inverse, matrix(("3/13",)))
        self.assertEqual(net.right, vector("47/3"))
        self.assertEqual(net.total, ratio("172/3"))
        self.assertEqual(net.heights(), vector("47/13"))
        self.assertEqual(net.misfits(), vector("8/13", "-5/13", "3/13"))
        self.assertEqual(net.squares(), ratio("9/13"))
        self.assertEqual(net.shares(), vector("10/13", "7/13", "9/13"))

    def test_loop_in_numbers(self):
        # The readings contradict each other by 1; the sum of the heights stays that of the approximations.
        net = net_of(samples()["loop"])
        self.assertEqual(net.points, ["C", "A", "B"])
        self.assertEqual(sum(numbers(net.heights())), 7)
        self.assertEqual(net.misfits(), vector("2/7", "1/7", "-4/7"))
        self.assertEqual(net.squares(), ratio("2/7"))
        self.assertEqual(net.movements(), [vector(1, 1, 1)])
        self.assertEqual(net.rank(), 2)
        self.assertEqual(net.shares(), vector("2/7", "1/7", "4/7"))

    def test_points_that_no_reading_names_stay(self):
        net = net_of(samples()["unnamed points"])
        self.assertEqual(net.points, ["N", "A", "M", "B", "O"])
        for at, height in ((0, 4), (2, -4), (4, 0)):
            self.assertEqual(net.heights()[at], Ratio(height))
            self.assertEqual(net.normal[at], vector(0, 0, 0, 0, 0))
        self.assertEqual(net.movements(), [vector(1, 0, 0, 0, 0), vector(0, 0, 1, 0, 0), vector(0, 0, 0, 0, 1)])

    def test_other_heights_are_not_better(self):
        draw = Draw(6)
        for book in samples().values():
            net = net_of(book)
            heights, start = numbers(net.heights()), numbers(net.approximations)
            for _ in range(12):
                other = [x + Fraction(draw.number(9)) * draw.below(2) for x in heights]
                self.assertGreaterEqual(squares_of(book, other), fraction(net.squares()))
                moved = list(heights)
                for movement in net.movements():
                    amount = Fraction(draw.number(9))
                    moved = [x + amount * y for x, y in zip(moved, numbers(movement))]
                self.assertEqual(squares_of(book, moved), fraction(net.squares()))
                if moved != heights:
                    self.assertGreater(
                        sum((x - y) ** 2 for x, y in zip(moved, start)),
                        sum((x - y) ** 2 for x, y in zip(heights, start)),
                    )

    def test_approximations_matter_only_along_movements(self):
        for name in ("fixed", "no freedom", "one point"):
            book = samples()[name]
            heights = net_of(book).heights()
            for point in book.points:
                book.change_approximation(point, ratio("-77/3"))
            self.assertEqual(net_of(book).heights(), heights)
        book = samples()["loop"]
        heights = net_of(book).heights()
        book.change_approximation("A", Ratio(3))
        self.assertEqual(net_of(book).heights(), tuple(one + ONE for one in heights))

    def test_net_and_book_share_nothing(self):
        book = samples()["fixed"]
        before = state(book)
        net = net_of(book)
        net.add_point("new", ONE)
        net.withdraw("ab")
        net.change_value("a", Ratio(0))
        self.assertEqual(state(book), before)
        other = net_of(book)
        kept = net_state(other)
        book.add_point("more", ONE)
        book.withdraw("a")
        self.assertEqual(net_state(other), kept)

    def test_results_are_new(self):
        net = net_of(samples()["two pieces"])
        kept = net.movements()
        net.movements().clear()
        self.assertEqual(net.movements(), kept)
        self.assertEqual(len(kept), 2)

    def test_telling_changes_nothing(self):
        for book in samples().values():
            net = net_of(book)
            before = net_state(net)
            for told in ("heights", "misfits", "squares", "rank", "movements", "shares", "paper"):
                self.assertEqual(getattr(net, told)(), getattr(net, told)())
            self.assertEqual(net_state(net), before)

    def test_row(self):
        net = fixed()
        reading = a_reading("strange", (("A", -9), ("C", 4)))
        self.assertEqual(net.row(reading), vector(-9, 0, 4))
        self.assertEqual(net_state(net), net_state(fixed()))
        self.assertEqual(net_of(samples()["loop"]).row(a_reading("x", (("B", 2), ("C", 3)))), vector(3, 0, 2))


class SharesAndChanges(NetCase):
    def test_a_changed_value_changes_the_misfit_by_its_share(self):
        for name, book in samples().items():
            for at, reading in enumerate(book.readings):
                for error in ("1", "-7/3"):
                    net = net_of(book)
                    before, share = net.misfits()[at], net.shares()[at]
                    net.change_value(reading.name, reading.value + ratio(error))
                    self.assertEqual(net.misfits()[at], before - ratio(error) * share, name)
                    self.assertEqual(net.shares()[at], share)

    def test_shares_that_are_0(self):
        book = samples()["two pieces"]
        self.assertEqual([one.name for one in book.readings], ["ab", "xy", "ba"])
        self.assertEqual(net_of(book).shares(), vector("1/4", 0, "3/4"))
        self.assertEqual(net_of(samples()["no freedom"]).shares(), vector(0, 0, 0))

    def test_shares_of_readings_alike(self):
        book = book_of([("A", 0)], [(f"r{at}", (("A", 1),), at, 1) for at in range(4)])
        self.assertEqual(net_of(book).shares(), vector("3/4", "3/4", "3/4", "3/4"))


class Edits(NetCase):
    def check_like(self, net):
        """Expects that the net equals to the fraction the net made from nothing."""
        book = book_like(net)
        self.check_same(net, net_of(book))
        self.check_net(net, book)

    def test_add_point(self):
        net = Net()
        self.assertIsNone(net.add_point("B", ratio("7/2")))
        self.assertIsNone(net.add_point("A", ratio(-1)))
        self.assertEqual((net.points, net.approximations), (["B", "A"], vector("7/2", -1)))
        self.assertEqual((net.normal, net.inverse), (matrix((0, 0), (0, 0)), matrix((0, 0), (0, 0))))
        self.assertEqual((net.right, net.total), (vector(0, 0), Ratio(0)))

    def test_add_point_behind_readings(self):
        net = fixed()
        heights, shares = net.heights(), net.shares()
        net.add_point("D", ratio("9/4"))
        self.assertEqual(net.heights(), (*heights, ratio("9/4")))
        self.assertEqual(net.shares(), shares)
        self.assertEqual(net.movements(), [vector(0, 0, 0, 1)])
        self.check_like(net)

    def test_points_may_have_names_of_readings(self):
        net = fixed()
        net.add_point("ab", ONE)
        net.add(a_reading("A", (("ab", 2),), "5"))
        self.assertEqual(net.heights()[-1], ratio("5/2"))
        self.check_like(net)

    def test_add_point_refused(self):
        self.refuse(fixed(), DuplicateName, {"name": "B"}, "add_point", "B", ONE)
        net = net_of(full())
        self.refuse(net, LimitReached, {"what": "points"}, "add_point", "more", ONE)
        self.refuse(net, DuplicateName, {"name": net.points[3]}, "add_point", net.points[3], ONE)

    def test_twelve_points(self):
        net = Net()
        for at in range(12):
            net.add_point(f"p{at}", Ratio(at))
        self.assertEqual(net.heights(), vector(*range(12)))
        self.refuse(net, LimitReached, {"what": "points"}, "add_point", "p12", ONE)

    def test_add(self):
        net = Net()
        net.add_point("A", Ratio(100))
        net.add_point("B", ratio("205/2"))
        reading = a_reading("d1", (("A", -1), ("B", 1)), "3", "2")
        self.assertIsNone(net.add(reading))
        self.assertIs(net.readings[0], reading)
        self.assertEqual(net.normal, matrix((2, -2), (-2, 2)))
        self.assertEqual(net.inverse, matrix(("1/8", "-1/8"), ("-1/8", "1/8")))
        self.assertEqual((net.right, net.total), (vector(-1, 1), ratio("1/2")))
        self.assertEqual(net.heights(), vector("399/4", "411/4"))
        self.check_like(net)

    def test_add_refused(self):
        net = fixed()
        self.refuse(net, DuplicateName, {"name": "ab"}, "add", a_reading("ab"))
        self.refuse(net, DuplicateName, {"name": "ab"}, "add", a_reading("ab", (("Z", 1),)))
        for terms, name in (
            ((("D", 1),), "D"), ((("A", 1), ("D", 1), ("E", 2)), "D"), ((("AA", 1), ("B", 1), ("Z", 1)), "AA"),
            ((("ab", 1),), "ab"),
        ):
            self.refuse(net, UnknownPoint, {"name": name}, "add", a_reading("new", terms))

    def test_twenty_four_readings(self):
        net = net_of(full())
        point = net.points[0]
        self.refuse(net, LimitReached, {"what": "readings"}, "add", a_reading("more", ((point, 1),)))
        self.refuse(net, UnknownPoint, {"name": "none"}, "add", a_reading("more", (("none", 1),)))
        self.refuse(net, DuplicateName, {"name": "r7"}, "add", a_reading("r7", (("none", 1),)))
        net.withdraw("r7")
        net.add(a_reading("r7", ((point, 3),), "5/2", "2"))
        self.assertEqual(net.readings[-1].name, "r7")
        self.assertEqual(len(net.readings), 24)
        self.check_like(net)

    def test_withdraw(self):
        for at, name in enumerate(["a", "ab", "bc", "ac", "c"]):
            net = fixed()
            self.assertIsNone(net.withdraw(name))
            self.assertEqual([one.name for one in net.readings], ["a", "ab", "bc", "ac", "c"][:at] + [
                "a", "ab", "bc", "ac", "c"][at + 1:])
            self.check_like(net)

    def test_withdraw_refused(self):
        self.refuse(fixed(), UnknownReading, {"name": "A"}, "withdraw", "A")
        self.refuse(Net(), UnknownReading, {"name": "ab"}, "withdraw", "ab")
        net = fixed()
        net.withdraw("ab")
        self.refuse(net, UnknownReading, {"name": "ab"}, "withdraw", "ab")

    def test_change_value(self):
        for at, name in enumerate(["a", "ab", "bc", "ac", "c"]):
            net = fixed()
            matrices = net.normal, net.inverse
            old = net.readings[at]
            self.assertIsNone(net.change_value(name, ratio("-13/4")))
            self.assertEqual([one.name for one in net.readings], ["a", "ab", "bc", "ac", "c"])
            new = net.readings[at]
            self.assertEqual((new.terms, new.value, new.weight), (old.terms, ratio("-13/4"), old.weight))
            self.assertEqual((net.normal, net.inverse), matrices)
            self.check_like(net)

    def test_change_weight(self):
        for at, name in enumerate(["a", "ab", "bc", "ac", "c"]):
            for weight in ("1", "7", "2/9"):
                net = fixed()
                old = net.readings[at]
                self.assertIsNone(net.change_weight(name, ratio(weight)))
                self.assertEqual([one.name for one in net.readings], ["a", "ab", "bc", "ac", "c"])
                new = net.readings[at]
                self.assertEqual((new.terms, new.value, new.weight), (old.terms, old.value, ratio(weight)))
                self.check_like(net)

    def test_change_of_a_reading_that_bears_the_rank(self):
        for name in ("example", "no freedom", "two pieces"):
            for reading in samples()[name].readings:
                net = net_of(samples()[name])
                net.change_weight(reading.name, ratio("5/3"))
                net.change_value(reading.name, ratio("5/3"))
                self.check_like(net)

    def test_changed_readings_are_new_ones(self):
        book = samples()["fixed"]
        net = net_of(book)
        net.change_value("ab", Ratio(99))
        net.change_weight("bc", Ratio(99))
        self.assertEqual((str(book.reading("ab").value), str(book.reading("bc").weight)), ("5/2", "2"))

    def test_changes_refused(self):
        net = fixed()
        self.refuse(net, UnknownReading, {"name": "A"}, "change_value", "A", ONE)
        self.refuse(net, UnknownReading, {"name": "A"}, "change_weight", "A", ONE)
        for weight in ("0", "-1", "-1/999999999"):
            self.refuse(net, BadReading, {"reason": "weight"}, "change_weight", "ab", ratio(weight))
            self.refuse(net, UnknownReading, {"name": "none"}, "change_weight", "none", ratio(weight))

    def test_a_point_added_between_edits(self):
        net = net_of(samples()["two pieces"])
        net.withdraw("ab")
        net.add_point("Z", Ratio(3))
        net.add(a_reading("yz", (("Y", -1), ("Z", 2)), "5/2", "3"))
        net.change_weight("xy", ratio("1/2"))
        net.withdraw("ba")
        self.check_like(net)


class LongRowsOfEdits(NetCase):
    def run_edits(self, seed, points, steps):
        """Edits of all kinds; the last ones withdraw every reading."""
        draw, net = Draw(seed), Net()
        for at in range(points):
            net.add_point(f"p{at}", ratio(draw.number()))
        for step in range(steps):
            self.edit(draw, net, step)
            if step % 10 == 9:
                self.check_same(net, net_of(book_like(net)))
        self.check_net(net, book_like(net))
        while net.readings:
            net.withdraw(draw.pick(net.readings).name)
            self.check_same(net, net_of(book_like(net)))
        self.check_net(net, book_like(net))
        self.assertEqual(net.heights(), net.approximations)

    def edit(self, draw, net, step):
        kind = draw.below(8)
        if kind < 4 or not net.readings:
            if len(net.readings) < 24:
                net.add(a_reading(f"r{step}", draw.terms(net.points, 3), draw.number(), draw.weight()))
        elif kind < 5:
            net.withdraw(draw.pick(net.readings).name)
        elif kind < 6:
            net.change_value(draw.pick(net.readings).name, ratio(draw.number()))
        elif kind < 7:
            net.change_weight(draw.pick(net.readings).name, ratio(draw.weight()))
        elif len(net.points) < 12:
            net.add_point(f"p{len(net.points)}", ratio(draw.number()))

    def test_small(self):
        for seed in range(6):
            self.run_edits(seed, 1 + seed % 3, 40)

    def test_large(self):
        self.run_edits(60, 6, 110)


class OtherWays(NetCase):
    def with_readings(self, book, readings):
        other = Book()
        for name in book.points:
            other.add_point(name, book.approximations[name])
        for one in readings:
            other.add_reading(one.name, one.terms, one.value, one.weight)
        return net_of(other)

    def test_readings_in_another_order(self):
        for book in samples().values():
            net, many = net_of(book), len(book.readings)
            for order in (list(range(many))[::-1], sorted(range(many), key=lambda at: (at * 5 + 2) % 7)):
                other = self.with_readings(book, [book.readings[at] for at in order])
                self.assertEqual(net_state(other)[3:], net_state(net)[3:])
                self.assertEqual(other.heights(), net.heights())
                self.assertEqual(other.misfits(), tuple(net.misfits()[at] for at in order))
                self.assertEqual(other.shares(), tuple(net.shares()[at] for at in order))
                self.assertEqual((other.squares(), other.rank()), (net.squares(), net.rank()))
                self.assertEqual(other.movements(), net.movements())

    def test_weights_multiplied(self):
        for book in samples().values():
            net = net_of(book)
            for factor in (ratio(7), ratio("3/11")):
                other = self.with_readings(book, [
                    Reading(one.name, one.terms, one.value, one.weight * factor) for one in book.readings
                ])
                self.assertEqual((other.heights(), other.misfits()), (net.heights(), net.misfits()))
                self.assertEqual((other.shares(), other.rank()), (net.shares(), net.rank()))
                self.assertEqual(other.squares(), net.squares() * factor)

    def test_each_reading_twice_with_half_of_its_weight(self):
        half = ratio("1/2")
        for book in samples().values():
            net = net_of(book)
            other = self.with_readings(book, [
                Reading(f"{one.name}{mark}", one.terms, one.value, one.weight * half)
                for one in book.readings for mark in ("x", "y")
            ])
            self.assertEqual(net_state(other)[3:], net_state(net)[3:])
            self.assertEqual(other.heights(), net.heights())
            self.assertEqual((other.squares(), other.rank()), (net.squares(), net.rank()))
            self.assertEqual(other.movements(), net.movements())
            # Half of the weight takes half of what the share lacks to 1.
            expected = [1 - (1 - share) / 2 for share in numbers(net.shares()) for _ in range(2)]
            self.assertEqual(numbers(other.shares()), expected)

    def test_squares_are_those_of_the_judge(self):
        for book in samples().values():
            net = net_of(book)
            self.assertEqual(net.squares(), squares_at(book, net.heights()))


class Interface(unittest.TestCase):
    def test_methods_stand_in_the_class(self):
        for name, arguments in (
            ("__init__", []), ("add_point", ["name", "approximation"]), ("add", ["reading"]), ("withdraw", ["name"]),
            ("change_value", ["name", "value"]), ("change_weight", ["name", "weight"]), ("row", ["reading"]),
            ("heights", []), ("misfits", []), ("squares", []), ("rank", []), ("movements", []), ("shares", []),
            ("paper", []),
        ):
            self.assertEqual(list(inspect.signature(vars(Net)[name]).parameters), ["self", *arguments])
        self.assertEqual(Net.__module__, "plumbnet.adjust")
        self.assertEqual(list(inspect.signature(net_of).parameters), ["book"])
        self.assertEqual(adjust.net_of.__module__, "plumbnet.adjust")

    def test_nets_share_nothing(self):
        first, second = Net(), Net()
        first.add_point("A", ONE)
        first.add(a_reading("a"))
        self.assertEqual(net_state(second), ([], (), [], (), (), (), Ratio(0)))

    def test_ranks_of_the_helpers_agree(self):
        for book in samples().values():
            rows = lines_of_book(book)[0]
            given = matrix(*rows)
            self.assertEqual(rank_of(given, len(book.points)), len(eliminated(rows, len(book.points))[1]))


if __name__ == "__main__":
    unittest.main()
