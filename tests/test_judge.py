"""Points 2, 501, 507 and 508, and the interface of plumbnet/judge.py."""

import ast
import inspect
import unittest
from pathlib import Path

from helpers import book_of, fraction, numbers, ratio, squares_of, state, vector
from plumbnet import judge
from plumbnet.adjust import net_of
from plumbnet.judge import fault_of, squares_at
from plumbnet.ratio import Ratio
from plumbnet.vectors import dot, plus, scale
from samples import Draw, drawn, full, samples

PACKAGE = Path(__file__).resolve().parent.parent / "plumbnet"
ONE = Ratio(1)


def misfits_for(book, heights):
    """The misfits that fit these heights."""
    net = net_of(book)
    return tuple(dot(net.row(one), heights) - one.value for one in book.readings)


def changed(given, at, by=ONE):
    return given[:at] + (given[at] + by,) + given[at + 1:]


class JudgeCase(unittest.TestCase):
    def check(self, book, paper, expected):
        before, given = state(book), tuple(paper)
        reason = fault_of(book, paper)
        self.assertEqual(reason, expected)
        self.assertEqual((state(book), paper), (before, given))


class RightPapers(JudgeCase):
    def test_papers_of_nets(self):
        for book in samples().values():
            self.check(book, net_of(book).paper(), None)
        for seed in range(50, 70):
            book = drawn(seed, 2 + seed % 5, seed % 9, seed % 2 == 0)
            self.check(book, net_of(book).paper(), None)
        self.check(full(), net_of(full()).paper(), None)

    def test_in_numbers(self):
        example = samples()["example"]
        self.check(example, (vector(100, "205/2"), vector(0), vector(0)), None)
        example.change_approximation("B", Ratio(104))
        self.check(example, (vector("403/4", "413/4"), vector(0), vector("-3/4")), None)
        one = samples()["one point"]
        self.check(one, (vector("47/13"), vector("8/13", "-5/13", "3/13"), vector("47/13", 0, 0)), None)
        self.check(one, (vector("47/13"), vector("8/13", "-5/13", "3/13"), vector(0, 0, "47/26")), None)
        self.check(samples()["empty"], ((), (), ()), None)
        self.check(samples()["points"], (vector(3, "-1/2"), (), ()), None)

    def test_other_factors_that_make_up_the_same(self):
        # In a loop the rows of the readings add up to 0 with the factors 1, 1 and -1.
        book = samples()["loop"]
        heights, misfits, factors = net_of(book).paper()
        for amount in ("1", "-5/3", "100"):
            self.check(book, (heights, misfits, plus(factors, scale(ratio(amount), vector(1, 1, -1)))), None)
            self.check(book, (heights, misfits, plus(factors, scale(ratio(amount), vector(1, 1, 1)))), "nearest")


class Reasons(JudgeCase):
    def test_size(self):
        for book in samples().values():
            paper = net_of(book).paper()
            for at in range(3):
                shorter, longer = list(paper), list(paper)
                longer[at] = (*paper[at], Ratio(0))
                self.check(book, tuple(longer), "size")
                if paper[at]:
                    shorter[at] = paper[at][:-1]
                    self.check(book, tuple(shorter), "size")
                    shorter[at] = ()
                    self.check(book, tuple(shorter), "size")

    def test_size_of_readings_and_points_are_not_mixed_up(self):
        book = samples()["fixed"]
        heights, misfits, factors = net_of(book).paper()
        self.assertEqual((len(heights), len(misfits)), (3, 5))
        self.check(book, (misfits, heights, factors), "size")
        self.check(book, (misfits, misfits, factors), "size")
        self.check(book, (heights, heights, factors), "size")
        self.check(book, (heights, misfits, heights), "size")

    def test_each_misfit(self):
        for book in samples().values():
            heights, misfits, factors = net_of(book).paper()
            for at in range(len(misfits)):
                for by in ("1", "-1/999999999"):
                    self.check(book, (heights, changed(misfits, at, ratio(by)), factors), "misfits")

    def test_negative_misfits(self):
        book = samples()["loop"]
        heights, misfits, factors = net_of(book).paper()
        self.check(book, (heights, tuple(-one for one in misfits), factors), "misfits")

    def test_changed_heights_with_the_old_misfits(self):
        book = samples()["fixed"]
        heights, misfits, factors = net_of(book).paper()
        for at in range(3):
            self.check(book, (changed(heights, at), misfits, factors), "misfits")

    def test_changed_heights_with_fitting_misfits(self):
        for book in samples().values():
            heights, _, factors = net_of(book).paper()
            for at, point in enumerate(book.points):
                other = changed(heights, at, ratio("1/7"))
                moves = any(point in dict(one.terms) for one in book.readings)
                expected = "least" if moves else "nearest"
                self.check(book, (other, misfits_for(book, other), factors), expected)

    def test_heights_moved_without_a_change_of_misfits(self):
        for book in samples().values():
            net = net_of(book)
            heights, misfits, factors = net.paper()
            for movement in net.movements():
                other = plus(heights, scale(ratio("-2/3"), movement))
                self.check(book, (other, misfits, factors), "nearest")

    def test_least_is_checked_for_each_point(self):
        # Only one point is pulled away from its best height by each of these readings.
        book = book_of([("A", 0), ("B", 0), ("C", 0)], [
            (f"{point}{at}", ((point, 2),), at, 3) for point in "ABC" for at in (1, 4)
        ])
        best = vector("5/4", "5/4", "5/4")
        factors = vector("5/8", 0, "5/8", 0, "5/8", 0)
        self.check(book, (best, misfits_for(book, best), factors), None)
        for at in range(3):
            other = changed(best, at)
            self.check(book, (other, misfits_for(book, other), changed(factors, 2 * at, ratio("1/2"))), "least")

    def test_weights_count(self):
        book = book_of([("A", 0)], [("a", (("A", 1),), 0, 1), ("b", (("A", 1),), 4, 3)])
        for height, expected in ((3, None), (2, "least")):
            heights = vector(height)
            self.check(book, (heights, misfits_for(book, heights), vector(height, 0)), expected)

    def test_each_factor(self):
        for book in samples().values():
            heights, misfits, factors = net_of(book).paper()
            for at in range(len(factors)):
                self.check(book, (heights, misfits, changed(factors, at, ratio("1/5"))), "nearest")

    def test_factors_are_compared_at_each_point(self):
        # Each point has a reading of its own, so each point but one is right here.
        points = [("A", 1), ("B", -2), ("C", "1/2")]
        book = book_of(points, [(name.lower(), ((name, 1),), 5, 1) for name, _ in points])
        right = (vector(5, 5, 5), vector(0, 0, 0), vector(4, 7, "9/2"))
        self.check(book, right, None)
        for at in range(3):
            self.check(book, (right[0], right[1], changed(right[2], at)), "nearest")

    def test_order_of_the_reasons(self):
        book = samples()["two pieces"]
        heights, misfits, factors = net_of(book).paper()
        wrong = changed(heights, 0)
        strange = changed(factors, 0)
        self.check(book, (wrong, misfits, strange[1:]), "size")
        self.check(book, (wrong, misfits[1:], strange), "size")
        self.check(book, (wrong, misfits, strange), "misfits")
        self.check(book, (wrong, misfits, factors), "misfits")
        self.check(book, (heights, changed(misfits, 1), strange), "misfits")
        self.check(book, (wrong, misfits_for(book, wrong), strange), "least")
        self.check(book, (heights, misfits, strange), "nearest")

    def test_papers_of_other_books(self):
        draw = Draw(9)
        for name in ("fixed", "loop", "drawn terms", "two pieces"):
            book = samples()[name]
            paper = net_of(book).paper()
            reading = draw.pick(book.readings)
            other = book.twin()
            other.change_value(reading.name, reading.value + ONE)
            self.check(other, paper, "misfits")
            moved = book.twin()
            moved.change_approximation(book.points[0], Ratio(-55))
            # In the other two the heights stay, but the factors no longer make up their changes.
            self.check(moved, paper, "nearest")

    def test_another_weight_is_seen(self):
        for name in ("fixed", "loop", "one point", "alike"):
            book = samples()[name]
            paper = net_of(book).paper()
            for at, one in enumerate(book.readings):
                other = book.twin()
                other.change_weight(one.name, one.weight + ONE)
                self.check(other, paper, None if paper[1][at] == Ratio(0) else "least")


class SquaresAt(JudgeCase):
    def test_drawn_heights(self):
        draw = Draw(3)
        for book in samples().values():
            for _ in range(8):
                heights = vector(*[draw.number() for _ in book.points])
                before = state(book)
                told = squares_at(book, heights)
                self.assertIs(type(told), Ratio)
                self.assertEqual(fraction(told), squares_of(book, numbers(heights)))
                self.assertEqual(state(book), before)

    def test_in_numbers(self):
        book = samples()["loop"]
        self.assertEqual(squares_at(book, vector(0, 0, 0)), ratio(40))
        self.assertEqual(squares_at(book, vector(6, 1, 2)), ratio("7/2"))
        self.assertEqual(squares_at(samples()["example"], vector(1, 2)), ratio("9/4"))

    def test_without_readings(self):
        self.assertEqual(squares_at(samples()["empty"], ()), Ratio(0))
        self.assertEqual(squares_at(samples()["points"], vector(5, 6)), Ratio(0))


def imported(name, seen):
    """The modules of the package that a module imports, directly or not."""
    for node in ast.walk(ast.parse((PACKAGE / f"{name}.py").read_text("utf-8"))):
        if isinstance(node, ast.ImportFrom) and node.module.startswith("plumbnet."):
            other = node.module.removeprefix("plumbnet.")
            if other not in seen:
                seen.add(other)
                imported(other, seen)
    return seen


class Interface(unittest.TestCase):
    def test_the_judge_uses_neither_the_net_nor_what_solves_for_it(self):
        self.assertLessEqual(imported("judge", set()), {"books", "errors", "matrices", "ratio", "vectors"})

    def test_functions(self):
        for name, arguments in (("fault_of", ["book", "paper"]), ("squares_at", ["book", "heights"])):
            self.assertEqual(list(inspect.signature(getattr(judge, name)).parameters), arguments)
            self.assertEqual(getattr(judge, name).__module__, "plumbnet.judge")


if __name__ == "__main__":
    unittest.main()
