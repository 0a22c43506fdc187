"""Points 2, 3 and 604 to 608, and the interface of plumbnet/functions.py."""

import inspect
import unittest
from fractions import Fraction
from itertools import combinations

from helpers import (
    dotted, eliminated, fraction, lines_of_book, net_state, normal_of, null_vectors, numbers, ratio, solution,
    turned, vector,
)
from plumbnet import functions
from plumbnet.adjust import Net, net_of
from plumbnet.books import Reading
from plumbnet.errors import NotEstimable, UnknownPoint, UnknownReading
from plumbnet.functions import best_offer, estimable, factors, spread, spread_with, spread_without, value_of
from plumbnet.ratio import Ratio
from samples import Draw, drawn, full, samples

ALL = {
    "estimable": (), "value_of": (), "spread": (), "factors": (),
    "spread_with": (Reading("new", (("A", 1),), Ratio(1), Ratio(1)),), "spread_without": ("ab",), "best_offer": ([],),
}


def offer(terms, weight="1", value="0", name="new"):
    return Reading(name, terms, ratio(value), ratio(weight))


def row_for(book, terms):
    return [Fraction(dict(terms).get(name, 0)) for name in book.points]


def first_movement(book, terms):
    """The first movement that changes the function, or None; by other means than the program's."""
    rows, row = lines_of_book(book)[0], row_for(book, terms)
    return next((one for one in null_vectors(rows, len(book.points)) if dotted(one, row) != 0), None)


def told_spread(book, terms):
    """The spread by any solution of the normal matrix and the row; None if the function is not estimable."""
    rows, _, weights = lines_of_book(book)
    width, row = len(book.points), row_for(book, terms)
    found = solution(normal_of(rows, weights, width), width, row)
    return None if found is None else dotted(row, found)


def told_factors(book, terms):
    """The factors of least sum of squares by weight, by the conditions of Lagrange."""
    rows, _, weights = lines_of_book(book)
    width, many = len(book.points), len(rows)
    system = [
        [*[Fraction(int(i == j)) / weights[i] for j in range(many)], *[-x for x in rows[i]]] for i in range(many)
    ] + [[*column, *[Fraction(0)] * width] for column in turned(rows, width)]
    return solution(system, many + width, [*[Fraction(0)] * many, *row_for(book, terms)])[:many]


def more_readings(book, reading):
    """A book like this one with a further reading, whose name is made new."""
    other = book.twin()
    other.readings.append(Reading("further_one", reading.terms, reading.value, reading.weight))
    return other


def functions_of(book, seed, many):
    draw = Draw(seed)
    return [draw.terms(book.points, 3) for _ in range(many)] if book.points else []


class FunctionCase(unittest.TestCase):
    def refuse(self, net, error, attributes, name, *arguments):
        before = net_state(net)
        with self.assertRaises(error) as caught:
            getattr(functions, name)(net, *arguments)
        self.assertIs(type(caught.exception), error)
        self.assertEqual(vars(caught.exception), attributes)
        self.assertEqual(net_state(net), before)

    def check(self, book, terms):
        """Points 604 to 606 for a function; tells whether it is estimable."""
        net = net_of(book)
        before, movement = net_state(net), first_movement(book, terms)
        self.assertIs(estimable(net, terms), movement is None)
        rows, _, weights = lines_of_book(book)
        # A function is estimable exactly if its row is a sum of factors times the rows of the readings.
        longer = [*rows, row_for(book, terms)]
        self.assertEqual(
            len(eliminated(longer, len(book.points))[1]) == len(eliminated(rows, len(book.points))[1]),
            movement is None,
        )
        if movement is not None:
            for name in ("value_of", "spread", "factors"):
                self.refuse(net, NotEstimable, {"movement": vector(*movement)}, name, terms)
            return False
        value = value_of(net, terms)
        self.assertIs(type(value), Ratio)
        self.assertEqual(fraction(value), dotted(row_for(book, terms), numbers(net.heights())))
        self.check_spread(net, book, terms)
        self.assertEqual(net_state(net), before)
        return True

    def check_spread(self, net, book, terms):
        rows, _, weights = lines_of_book(book)
        told = factors(net, terms)
        self.assertIs(type(told), tuple)
        self.assertEqual([type(one) for one in told], [Ratio] * len(book.readings))
        self.assertEqual(numbers(told), told_factors(book, terms))
        for at, one in enumerate(row_for(book, terms)):
            self.assertEqual(sum((x * row[at] for x, row in zip(numbers(told), rows)), Fraction(0)), one)
        size = spread(net, terms)
        self.assertIs(type(size), Ratio)
        self.assertEqual(fraction(size), told_spread(book, terms))
        self.assertEqual(fraction(size), sum((x * x / w for x, w in zip(numbers(told), weights)), Fraction(0)))


class Estimable(FunctionCase):
    def test_drawn_functions_of_all_nets(self):
        found = set()
        for at, book in enumerate(samples().values()):
            for terms in functions_of(book, at, 12):
                found.add(self.check(book, terms))
        self.assertEqual(found, {True, False})

    def test_drawn_nets(self):
        for seed in range(100, 125):
            book = drawn(seed, 2 + seed % 5, seed % 9, seed % 2 == 0)
            for terms in functions_of(book, seed, 3):
                self.check(book, terms)

    def test_full_net(self):
        book = full()
        for terms in functions_of(book, 2, 2):
            self.assertTrue(self.check(book, terms))

    def test_rows_of_readings_are_estimable(self):
        for book in samples().values():
            for at, one in enumerate(book.readings):
                self.assertTrue(self.check(book, one.terms))
                net = net_of(book)
                self.assertEqual(value_of(net, one.terms), one.value + net.misfits()[at])

    def test_loop_in_numbers(self):
        net = net_of(samples()["loop"])
        rise = (("A", -1), ("C", 1))
        self.assertIs(estimable(net, rise), True)
        self.assertEqual(value_of(net, rise), ratio("38/7"))
        # From A to C leads the reading of weight 1/2, and beside it those of the weights 1 and 2.
        self.assertEqual(spread(net, rise), ratio("6/7"))
        self.assertEqual(factors(net, rise), vector("4/7", "4/7", "3/7"))
        self.assertIs(estimable(net, (("A", 1),)), False)
        self.assertIs(estimable(net, (("A", 1), ("B", 1))), False)
        self.assertIs(estimable(net, (("A", 1), ("B", -2), ("C", 1))), True)
        self.assertIs(estimable(net, (("A", 9), ("B", -4), ("C", -5))), True)

    def test_the_movement_that_is_told(self):
        net = net_of(samples()["two pieces"])
        self.assertEqual(net.points, ["A", "X", "B", "Y"])
        for terms, movement in (
            ((("A", 1),), vector(1, 0, 1, 0)), ((("Y", 1),), vector(0, 1, 0, 1)),
            ((("A", 1), ("Y", -1)), vector(1, 0, 1, 0)), ((("A", 1), ("B", -1), ("X", 3)), vector(0, 1, 0, 1)),
        ):
            self.assertIs(estimable(net, terms), False)
            for name in ("value_of", "spread", "factors"):
                self.refuse(net, NotEstimable, {"movement": movement}, name, terms)
        self.assertTrue(estimable(net, (("A", 1), ("B", -1), ("X", 3), ("Y", -3))))

    def test_without_readings(self):
        net = net_of(samples()["points"])
        self.assertIs(estimable(net, (("A", 2),)), False)
        self.refuse(net, NotEstimable, {"movement": vector(0, 1)}, "value_of", (("A", 2),))
        self.refuse(net, NotEstimable, {"movement": vector(1, 0)}, "spread", (("A", 2), ("B", -1)))
        self.refuse(net, NotEstimable, {"movement": vector(1, 0)}, "factors", (("B", 9),))

    def test_value_is_the_same_at_all_heights_of_least_squares(self):
        draw = Draw(8)
        for book in samples().values():
            net = net_of(book)
            for terms in functions_of(book, 77, 6):
                values = set()
                for _ in range(4):
                    heights = numbers(net.heights())
                    for movement in net.movements():
                        amount = Fraction(draw.number())
                        heights = [x + amount * y for x, y in zip(heights, numbers(movement))]
                    values.add(dotted(row_for(book, terms), heights))
                self.assertEqual(len(values) == 1, estimable(net, terms))

    def test_unknown_points_come_first(self):
        net = net_of(samples()["two pieces"])
        for name, more in ALL.items():
            self.refuse(net, UnknownPoint, {"name": "C"}, name, (("C", 1),), *more)
            self.refuse(net, UnknownPoint, {"name": "C"}, name, (("A", 1), ("C", 1), ("D", 2)), *more)
            self.refuse(net, UnknownPoint, {"name": "ab"}, name, (("A", 1), ("ab", 1)), *more)
            self.refuse(Net(), UnknownPoint, {"name": "A"}, name, (("A", 1),), *more)


class Factors(FunctionCase):
    def test_no_other_factors_have_a_smaller_sum(self):
        draw = Draw(12)
        for name in ("loop", "fixed", "alike", "drawn differences", "drawn terms"):
            book = samples()[name]
            rows, _, weights = lines_of_book(book)
            terms = book.readings[0].terms
            net = net_of(book)
            told = numbers(factors(net, terms))
            for idle in null_vectors(turned(rows, len(book.points)), len(rows)):
                amount = Fraction(draw.below(9) + 1, 3) * draw.pick([1, -1])
                other = [x + amount * y for x, y in zip(told, idle)]
                self.assertGreater(sum(x * x / w for x, w in zip(other, weights)), fraction(spread(net, terms)))

    def test_alike(self):
        net = net_of(samples()["alike"])
        self.assertEqual(spread(net, (("A", -1), ("B", 1))), ratio("2/493"))
        self.assertEqual(factors(net, (("A", -1), ("B", 1))), vector(
            "2/493", "2/493", "1/493", "-2/493", "54/493",
        ))


class With(FunctionCase):
    def check_with(self, book, terms, reading):
        net, given = net_of(book), (reading.name, reading.terms, reading.value, reading.weight)
        before = net_state(net)
        told = spread_with(net, terms, reading)
        self.assertEqual(net_state(net), before)
        self.assertEqual((reading.name, reading.terms, reading.value, reading.weight), given)
        expected = told_spread(more_readings(book, reading), terms)
        if expected is None:
            self.assertIsNone(told)
        else:
            self.assertIs(type(told), Ratio)
            self.assertEqual(fraction(told), expected)
            if estimable(net, terms):
                self.assertLessEqual(told, spread(net, terms))
        return told

    def test_drawn(self):
        told = set()
        for at, book in enumerate(samples().values()):
            draw = Draw(at)
            for terms in functions_of(book, at + 40, 6):
                reading = offer(draw.terms(book.points, 3), draw.weight(), draw.number())
                known = self.check_with(book, terms, reading) is not None
                told.add((estimable(net_of(book), terms), known))
        self.assertEqual(told, {(True, True), (False, True), (False, False)})

    def test_a_reading_that_makes_the_function_estimable(self):
        book = samples()["two pieces"]
        terms = (("A", 1), ("X", -1))
        net = net_of(book)
        self.assertIs(estimable(net, terms), False)
        self.assertIsNone(spread_with(net, terms, offer((("A", 1),))))
        self.assertEqual(spread_with(net, terms, offer((("A", 1), ("X", -1)), "1/5")), Ratio(5))
        self.assertEqual(self.check_with(book, terms, offer((("B", 1), ("X", -1)))), ratio("7/4"))
        self.assertEqual(self.check_with(book, (("A", 1),), offer((("A", -3),), "2")), ratio("1/18"))

    def test_names_that_are_taken(self):
        for name in ("loop", "fixed", "example"):
            book = samples()[name]
            for one in book.readings:
                reading = offer(one.terms, "3", "8", one.name)
                self.check_with(book, one.terms, reading)
        net = net_of(samples()["example"])
        rise = (("A", -1), ("B", 1))
        self.assertEqual(spread(net, rise), Ratio(1))
        self.assertEqual(spread_with(net, rise, net.readings[0]), ratio("1/2"))

    def test_in_a_net_of_24_readings(self):
        book = full()
        terms = (book.readings[3].terms[0],)
        told = self.check_with(book, terms, offer((terms[0],), "5"))
        self.assertLess(told, spread(net_of(book), terms))

    def test_the_value_does_not_matter(self):
        net = net_of(samples()["fixed"])
        terms = (("A", 1), ("C", 2))
        told = spread_with(net, terms, offer((("B", 1),), "2", "0"))
        self.assertEqual(spread_with(net, terms, offer((("B", 1),), "2", "999")), told)

    def test_against_nets_made_from_nothing(self):
        for name in ("loop", "fixed", "two pieces", "drawn terms"):
            book = samples()[name]
            reading = offer(((book.points[0], 2),), "3", "4")
            for terms in functions_of(book, 5, 5):
                net = net_of(book)
                told = spread_with(net, terms, reading)
                net.add(reading)
                self.assertEqual(told, spread(net, terms) if estimable(net, terms) else None)

    def test_unknown_points_of_the_reading(self):
        net = net_of(samples()["fixed"])
        for terms, name in (
            ((("Z", 1),), "Z"), ((("A", 1), ("Y", 1), ("Z", 1)), "Y"), ((("A", 1), ("ab", 1)), "ab"),
        ):
            self.refuse(net, UnknownPoint, {"name": name}, "spread_with", (("A", 1),), offer(terms))
        self.refuse(net, UnknownPoint, {"name": "Q"}, "spread_with", (("A", 1), ("Q", 1)), offer((("D", 1),)))
        # The points are looked at even where the function is not estimable.
        loop = net_of(samples()["loop"])
        self.refuse(loop, UnknownPoint, {"name": "Z"}, "spread_with", (("A", 1),), offer((("Z", 1),)))


class Without(FunctionCase):
    def test_all_readings_of_all_nets(self):
        told = set()
        for at, book in enumerate(samples().values()):
            for terms in functions_of(book, at + 60, 5):
                for one in book.readings:
                    net = net_of(book)
                    before = net_state(net)
                    result = spread_without(net, terms, one.name)
                    self.assertEqual(net_state(net), before)
                    other = book.twin()
                    other.withdraw(one.name)
                    expected = told_spread(other, terms)
                    self.assertEqual(None if result is None else fraction(result), expected)
                    told.add((estimable(net, terms), result is not None))
                    net.withdraw(one.name)
                    self.assertEqual(result, spread(net, terms) if estimable(net, terms) else None)
        self.assertEqual(told, {(True, True), (True, False), (False, False)})

    def test_a_reading_that_the_function_needs(self):
        net = net_of(samples()["two pieces"])
        self.assertIsNone(spread_without(net, (("X", -1), ("Y", 1)), "xy"))
        self.assertEqual(spread_without(net, (("X", -1), ("Y", 1)), "ab"), ratio("1/2"))
        self.assertEqual(spread_without(net, (("A", -1), ("B", 1)), "ab"), Ratio(3))
        self.assertEqual(spread_without(net, (("A", -1), ("B", 1)), "xy"), ratio("3/4"))
        self.assertIsNone(spread_without(net, (("A", 1),), "xy"))

    def test_full_net(self):
        book = full()
        terms = book.readings[0].terms
        other = book.twin()
        other.withdraw("r7")
        self.assertEqual(fraction(spread_without(net_of(book), terms, "r7")), told_spread(other, terms))

    def test_unknown(self):
        net = net_of(samples()["two pieces"])
        self.refuse(net, UnknownReading, {"name": "A"}, "spread_without", (("A", 1),), "A")
        self.refuse(net, UnknownReading, {"name": "none"}, "spread_without", (("A", 1), ("B", -1)), "none")
        self.refuse(net, UnknownPoint, {"name": "Z"}, "spread_without", (("Z", 1),), "none")


class Offers(FunctionCase):
    def check_offers(self, book, terms, offers):
        net = net_of(book)
        before, given = net_state(net), list(offers)
        told = best_offer(net, terms, offers)
        self.assertEqual(net_state(net), before)
        self.assertEqual(offers, given)
        spreads = [told_spread(more_readings(book, one), terms) for one in offers]
        known = [one for one in spreads if one is not None]
        if not known:
            self.assertIsNone(told)
        else:
            self.assertIs(type(told), tuple)
            at, size = told
            self.assertIs(type(at), int)
            self.assertEqual((at, fraction(size)), (spreads.index(min(known)), min(known)))
            self.assertEqual(size, spread_with(net, terms, offers[at]))
        return told

    def test_drawn(self):
        places = set()
        for at, book in enumerate(samples().values()):
            draw = Draw(at + 9)
            for terms in functions_of(book, at + 80, 5):
                offers = [offer(draw.terms(book.points, 2), draw.weight()) for _ in range(draw.below(6))]
                told = self.check_offers(book, terms, offers)
                places.add(told and told[0])
        self.assertLessEqual({None, 0, 1, 2}, places)

    def test_none(self):
        self.assertIsNone(best_offer(net_of(samples()["fixed"]), (("A", 1),), []))
        self.assertIsNone(best_offer(net_of(samples()["loop"]), (("A", 1),), []))

    def test_none_that_counts(self):
        net = net_of(samples()["two pieces"])
        offers = [offer((("X", 1),)), offer((("A", -1), ("B", 1))), offer((("X", 1), ("Y", 2)))]
        self.assertIsNone(best_offer(net, (("A", 1),), offers))
        self.assertEqual(best_offer(net, (("A", 1),), [*offers, offer((("A", 2),))]), (3, ratio("1/4")))

    def test_alike_offers(self):
        book = samples()["example"]
        rise = (("A", -1), ("B", 1))
        alike = [offer((("A", 1), ("B", -1)), "3"), offer((("A", -1), ("B", 1)), "3"), offer(rise, "3", "9", "d1")]
        self.assertEqual(self.check_offers(book, rise, alike), (0, ratio("1/4")))
        self.assertEqual(self.check_offers(book, rise, [offer(rise, "2"), *alike]), (1, ratio("1/4")))
        self.assertEqual(self.check_offers(book, rise, [*alike, offer(rise, "4")]), (3, ratio("1/5")))
        # Three times the difference with a ninth of the weight tells as much.
        same = [offer((("A", 3), ("B", -3)), "1/9"), offer(rise)]
        self.assertEqual(self.check_offers(book, rise, same), (0, ratio("1/2")))
        self.assertEqual(self.check_offers(book, rise, same[::-1]), (0, ratio("1/2")))

    def test_the_order_of_good_and_bad(self):
        book = samples()["fixed"]
        terms = (("B", 1),)
        offers = [offer((("B", 1),), weight) for weight in ("1", "9", "5")]
        for order in combinations(range(3), 2):
            self.check_offers(book, terms, [offers[at] for at in order])
            self.check_offers(book, terms, [offers[at] for at in reversed(order)])
        self.assertEqual(self.check_offers(book, terms, offers)[0], 1)

    def test_offers_that_do_not_help_leave_the_spread(self):
        book = samples()["two pieces"]
        rise = (("A", -1), ("B", 1))
        told = self.check_offers(book, rise, [offer((("X", 1),)), offer((("Y", 1),))])
        self.assertEqual(told, (0, spread(net_of(book), rise)))

    def test_in_a_full_net(self):
        book = full()
        offers = [offer(one.terms, "2", "0", one.name) for one in book.readings[:3]]
        self.check_offers(book, book.readings[1].terms, offers)

    def test_strange_points(self):
        net = net_of(samples()["loop"])
        good = offer((("A", 1),))
        for offers, name in (
            ([good, offer((("A", 1), ("D", 1), ("E", 1))), offer((("F", 1),))], "D"),
            ([good, good, offer((("bc", 1),))], "bc"), ([offer((("Z", 1),)), good], "Z"),
        ):
            self.refuse(net, UnknownPoint, {"name": name}, "best_offer", (("A", 1),), offers)
            self.refuse(net, UnknownPoint, {"name": "Q"}, "best_offer", (("A", 1), ("Q", 1)), offers)


class Interface(unittest.TestCase):
    def test_functions(self):
        for name, more in (
            ("estimable", []), ("value_of", []), ("spread", []), ("factors", []), ("spread_with", ["reading"]),
            ("spread_without", ["name"]), ("best_offer", ["offers"]),
        ):
            told = getattr(functions, name)
            self.assertEqual(list(inspect.signature(told).parameters), ["net", "terms", *more])
            self.assertEqual(told.__module__, "plumbnet.functions")


if __name__ == "__main__":
    unittest.main()
