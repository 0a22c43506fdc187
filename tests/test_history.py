"""Points 2, 3 and 901 to 905, and the interface of plumbnet/history.py."""

import inspect
import re
import unittest

from helpers import NAME, is_number, ratio, state
from plumbnet import history
from plumbnet.adjust import net_of
from plumbnet.books import Book
from plumbnet.errors import (
    BadReading, DuplicateName, LimitReached, NothingToUndo, ParseError, UnknownPoint, UnknownReading,
)
from plumbnet.history import Log, parse_log, print_log
from plumbnet.ratio import Ratio
from samples import Draw

ONE = Ratio(1)
RISE = (("A", -1), ("B", 1))
METHODS = {
    "point": "add_point", "reading": "add_reading", "approximation": "change_approximation", "value": "change_value",
    "weight": "change_weight", "withdraw": "withdraw", "remove": "remove_point",
}
EXAMPLE = """log 3
point A 100
point B 205/2
reading d1 5/2 1 -1 A 1 B
value d1 12/5
end
"""
START = [
    ("point", "A", Ratio(100)), ("point", "B", Ratio(205, 2)), ("reading", "d1", RISE, Ratio(5, 2), ONE),
]
ALL_KINDS = [
    *START, ("value", "d1", Ratio(12, 5)), ("weight", "d1", Ratio(2, 3)), ("approximation", "A", Ratio(-7, 4)),
    ("point", "C", Ratio(0)), ("reading", "d2", (("A", 9), ("B", -9), ("C", 2)), Ratio(-1, 3), Ratio(4)),
    ("withdraw", "d2"), ("remove", "C"), ("withdraw", "d1"), ("remove", "A"), ("point", "A", ONE),
]


def book_by(deeds):
    """The book that deeds make from an empty one."""
    book = Book()
    for deed in deeds:
        getattr(book, METHODS[deed[0]])(*deed[1:])
    return book


def log_by(deeds, back=0):
    """A log with these deeds, of which the last ones are taken back."""
    log = Log()
    for deed in deeds:
        log.do(deed)
    for _ in range(back):
        log.undo()
    return log


def log_state(log):
    return log.deeds(), log.undone(), state(log.book())


def many_deeds(many):
    """So many deeds that can be done one behind the other."""
    deeds = [("point", "A", ONE), ("point", "B", ONE), ("reading", "d1", RISE, ONE, ONE)]
    deeds += [("value", "d1", Ratio(at, 7)) for at in range(many)]
    return deeds[:many]


class LogCase(unittest.TestCase):
    def check(self, log, deeds, undone=()):
        """Points 902 and 903 for a log that should have these deeds."""
        self.assertEqual((log.deeds(), log.undone()), (list(deeds), list(undone)))
        self.assertEqual((type(log.deeds()), type(log.undone())), (list, list))
        book = book_by(deeds)
        self.assertIs(type(log.book()), Book)
        self.assertEqual(state(log.book()), state(book))
        net = net_of(book)
        self.assertEqual((log.heights(), log.misfits()), (net.heights(), net.misfits()))
        self.assertEqual((log.squares(), log.rank()), (net.squares(), net.rank()))

    def refuse(self, log, error, attributes, method, *arguments):
        before = log_state(log)
        with self.assertRaises(error) as caught:
            getattr(log, method)(*arguments)
        self.assertIs(type(caught.exception), error)
        self.assertEqual(vars(caught.exception), attributes)
        self.assertEqual(log_state(log), before)


class Deeds(LogCase):
    def test_empty(self):
        log = Log()
        self.check(log, [])
        self.assertEqual((log.heights(), log.misfits(), log.squares(), log.rank()), ((), (), Ratio(0), 0))
        self.assertEqual(state(log.book()), ([], [], []))

    def test_each_deed(self):
        log = Log()
        for at, deed in enumerate(ALL_KINDS):
            kept = tuple(deed)
            self.assertIsNone(log.do(deed))
            self.assertEqual(deed, kept)
            self.check(log, ALL_KINDS[:at + 1])
        self.assertEqual({deed[0] for deed in ALL_KINDS}, set(METHODS))

    def test_what_deeds_do(self):
        log = log_by(START)
        self.assertEqual(state(log.book()), (
            ["A", "B"], [("A", "100"), ("B", "205/2")], [("d1", RISE, "5/2", "1")],
        ))
        for deed, expected in (
            (("approximation", "B", Ratio(7)), (["A", "B"], [("A", "100"), ("B", "7")], [("d1", RISE, "5/2", "1")])),
            (("value", "d1", Ratio(7)), (["A", "B"], [("A", "100"), ("B", "7")], [("d1", RISE, "7", "1")])),
            (("weight", "d1", Ratio(8)), (["A", "B"], [("A", "100"), ("B", "7")], [("d1", RISE, "7", "8")])),
            (("withdraw", "d1"), (["A", "B"], [("A", "100"), ("B", "7")], [])),
            (("remove", "A"), (["B"], [("B", "7")], [])),
            (("point", "A", ONE), (["B", "A"], [("B", "7"), ("A", "1")], [])),
        ):
            log.do(deed)
            self.assertEqual(state(log.book()), expected)

    def test_refused_deeds(self):
        log = log_by([*START, ("value", "d1", Ratio(9)), ("weight", "d1", Ratio(9))], 1)
        full_points = log_by([("point", f"p{at}", ONE) for at in range(12)])
        full_readings = log_by([
            ("point", "A", ONE), *[("reading", f"r{at}", (("A", 1),), ONE, ONE) for at in range(24)],
        ])
        for one, error, attributes, deed in (
            (log, DuplicateName, {"name": "A"}, ("point", "A", ONE)),
            (full_points, LimitReached, {"what": "points"}, ("point", "more", ONE)),
            (full_points, DuplicateName, {"name": "p3"}, ("point", "p3", ONE)),
            (log, DuplicateName, {"name": "d1"}, ("reading", "d1", (), ONE, ONE)),
            (log, BadReading, {"reason": "terms"}, ("reading", "d2", (), ONE, ONE)),
            (log, BadReading, {"reason": "terms"}, ("reading", "d2", (("A", 10),), ONE, ONE)),
            (log, UnknownPoint, {"name": "Z"}, ("reading", "d2", (("A", 1), ("Z", 1)), ONE, Ratio(0))),
            (log, BadReading, {"reason": "weight"}, ("reading", "d2", RISE, ONE, Ratio(0))),
            (full_readings, LimitReached, {"what": "readings"}, ("reading", "more", (("A", 1),), ONE, ONE)),
            (log, UnknownPoint, {"name": "d1"}, ("approximation", "d1", ONE)),
            (log, UnknownReading, {"name": "A"}, ("value", "A", ONE)),
            (log, UnknownReading, {"name": "d2"}, ("weight", "d2", Ratio(0))),
            (log, BadReading, {"reason": "weight"}, ("weight", "d1", Ratio(-1))),
            (log, UnknownReading, {"name": "A"}, ("withdraw", "A")),
            (log, UnknownPoint, {"name": "C"}, ("remove", "C")),
            (log, BadReading, {"reason": "used"}, ("remove", "A")),
        ):
            self.refuse(one, error, attributes, "do", deed)
        self.assertEqual(len(log.undone()), 1)

    def test_two_hundred_deeds_and_one_more(self):
        deeds = many_deeds(200)
        log = log_by(deeds)
        self.check(log, deeds)
        self.refuse(log, LimitReached, {"what": "deeds"}, "do", ("value", "d1", ONE))
        self.refuse(log, LimitReached, {"what": "deeds"}, "do", ("point", "C", ONE))
        # What the method of the Book raises stands ahead of that.
        self.refuse(log, UnknownReading, {"name": "d2"}, "do", ("withdraw", "d2"))
        self.refuse(log, DuplicateName, {"name": "A"}, "do", ("point", "A", ONE))
        log.undo()
        self.check(log, deeds[:-1], deeds[-1:])
        log.do(("withdraw", "d1"))
        self.check(log, [*deeds[:-1], ("withdraw", "d1")])
        self.refuse(log, LimitReached, {"what": "deeds"}, "do", ("remove", "A"))

    def test_redo_up_to_two_hundred(self):
        deeds = many_deeds(200)
        log = log_by(deeds, 3)
        for _ in range(3):
            log.redo()
        self.assertEqual((log.deeds(), log.undone()), (deeds, []))
        self.refuse(log, NothingToUndo, {}, "redo")


class BackAndForth(LogCase):
    def test_to_both_ends_and_one_further(self):
        log = log_by(ALL_KINDS)
        many = len(ALL_KINDS)
        for _ in range(2):
            self.refuse(log, NothingToUndo, {}, "redo")
            for at in range(many - 1, -1, -1):
                self.assertIsNone(log.undo())
                self.check(log, ALL_KINDS[:at], ALL_KINDS[at:])
            self.refuse(log, NothingToUndo, {}, "undo")
            for at in range(1, many + 1):
                self.assertIsNone(log.redo())
                self.check(log, ALL_KINDS[:at], ALL_KINDS[at:])

    def test_of_an_empty_log(self):
        self.refuse(Log(), NothingToUndo, {}, "undo")
        self.refuse(Log(), NothingToUndo, {}, "redo")

    def test_a_new_deed_discards(self):
        log = log_by(ALL_KINDS, 5)
        left = ALL_KINDS[:-5]
        deed = ("approximation", "B", Ratio(3))
        log.do(deed)
        self.check(log, [*left, deed])
        self.refuse(log, NothingToUndo, {}, "redo")
        log.undo()
        self.check(log, left, [deed])

    def test_the_deed_that_would_be_done_again_discards_as_well(self):
        log = log_by(START, 2)
        log.do(START[1])
        self.check(log, START[:2])

    def test_a_refused_deed_does_not_discard(self):
        log = log_by(START, 1)
        self.refuse(log, DuplicateName, {"name": "A"}, "do", ("point", "A", ONE))
        self.refuse(log, UnknownReading, {"name": "d1"}, "do", ("value", "d1", ONE))
        self.assertEqual(log.undone(), START[2:])
        log.redo()
        self.check(log, START)

    def test_removed_points_and_withdrawn_readings_come_back_in_their_places(self):
        deeds = [
            ("point", "A", ONE), ("point", "B", Ratio(2)), ("point", "C", Ratio(3)),
            ("reading", "x", (("A", 1),), ONE, ONE), ("reading", "y", (("A", 2),), ONE, ONE),
            ("withdraw", "x"), ("remove", "B"),
        ]
        log = log_by(deeds)
        self.assertEqual(log.book().points, ["A", "C"])
        log.undo()
        self.assertEqual(list(log.book().approximations), ["A", "B", "C"])
        log.undo()
        self.assertEqual([one.name for one in log.book().readings], ["x", "y"])
        self.check(log, deeds[:5], deeds[5:])

    def test_drawn_turns(self):
        for seed in range(4):
            draw, log, done, back = Draw(seed), Log(), [], []
            for step in range(90):
                kind = draw.below(5)
                if kind == 0 and done:
                    log.undo()
                    back.insert(0, done.pop())
                elif kind == 1 and back:
                    log.redo()
                    done.append(back.pop(0))
                else:
                    deed = self.deed(draw, log.book(), step)
                    log.do(deed)
                    done.append(deed)
                    back = []
                self.assertEqual((log.deeds(), log.undone()), (done, back))
                if step % 6 == 0:
                    self.check(log, done, back)
                    self.assertEqual(log_state(parse_log(print_log(log))), log_state(log))
            self.check(log, done, back)

    def deed(self, draw, book, step):
        readings = [one.name for one in book.readings]
        kind = draw.below(9)
        if len(book.points) < 2 or kind == 0 and len(book.points) < 12:
            return "point", f"p{step}", ratio(draw.number())
        if kind == 1:
            return "approximation", draw.pick(book.points), ratio(draw.number())
        if readings and kind == 2:
            return "value", draw.pick(readings), ratio(draw.number())
        if readings and kind == 3:
            return "weight", draw.pick(readings), ratio(draw.weight())
        if readings and kind == 4 or len(readings) == 24:
            return "withdraw", draw.pick(readings)
        used = {point for one in book.readings for point, _ in one.terms}
        free = [name for name in book.points if name not in used]
        if free and kind == 5:
            return "remove", draw.pick(free)
        return "reading", f"r{step}", draw.terms(book.points, 3), ratio(draw.number()), ratio(draw.weight())


class NewThings(LogCase):
    def test_books_are_new(self):
        log = log_by(ALL_KINDS[:8], 1)
        before = log_state(log)
        first, second = log.book(), log.book()
        self.assertIsNot(first, second)
        for book in (first, second):
            book.withdraw("d1")
            book.remove_point("B")
            book.add_point("new", ONE)
            book.change_approximation("A", Ratio(55))
            self.assertEqual(log_state(log), before)
            self.check(log, ALL_KINDS[:7], ALL_KINDS[7:8])
        self.assertEqual(log.book().points, ["A", "B", "C"])

    def test_a_told_book_stays_as_it_was(self):
        log = log_by(START)
        book = log.book()
        before = state(book)
        log.do(("value", "d1", Ratio(77)))
        log.do(("point", "C", Ratio(77)))
        log.undo()
        self.assertEqual(state(book), before)

    def test_lists_are_new(self):
        log = log_by(ALL_KINDS, 3)
        log.deeds().clear()
        log.undone().clear()
        log.undone().append(("withdraw", "x"))
        self.check(log, ALL_KINDS[:-3], ALL_KINDS[-3:])

    def test_logs_share_nothing(self):
        first, second = Log(), Log()
        first.do(START[0])
        self.check(second, [])

    def test_telling_changes_nothing(self):
        log = log_by(ALL_KINDS, 2)
        before = log_state(log)
        for told in ("deeds", "undone", "book", "heights", "misfits", "squares", "rank"):
            getattr(log, told)()
            self.assertEqual(log_state(log), before)
        self.assertEqual(print_log(log), print_log(log))
        self.assertEqual(log_state(log), before)


class Printed(LogCase):
    def test_the_example(self):
        log = log_by([*START, ("value", "d1", Ratio(12, 5))], 1)
        self.assertEqual(print_log(log), EXAMPLE)
        log.redo()
        self.assertEqual(print_log(log), EXAMPLE.replace("log 3", "log 4"))

    def test_all_kinds_of_deeds(self):
        lines = [
            "point A 100", "point B 205/2", "reading d1 5/2 1 -1 A 1 B", "value d1 12/5", "weight d1 2/3",
            "approximation A -7/4", "point C 0", "reading d2 -1/3 4 9 A -9 B 2 C", "withdraw d2", "remove C",
            "withdraw d1", "remove A", "point A 1",
        ]
        for back in range(len(lines) + 1):
            expected = "".join(one + "\n" for one in [f"log {len(lines) - back}", *lines, "end"])
            self.assertEqual(print_log(log_by(ALL_KINDS, back)), expected)

    def test_empty(self):
        self.assertEqual(print_log(Log()), "log 0\nend\n")
        self.assertEqual(print_log(log_by(START[:1], 1)), "log 0\npoint A 100\nend\n")

    def test_numbers_of_any_size(self):
        log = log_by([("point", "A", Ratio(10 ** 30, 7))])
        self.assertEqual(print_log(log), f"log 1\npoint A {10 ** 30}/7\nend\n")


def deed_or_reason(words):
    """The deed of a line, or the reason for which it has none."""
    kind, size = words[0], len(words)
    numbered = kind in ("point", "approximation", "value", "weight") and size == 3
    bare = kind in ("withdraw", "remove") and size == 2
    if not (numbered or bare or kind == "reading" and size >= 6 and size % 2 == 0):
        return "words"
    if not all(re.fullmatch(NAME, word) for word in [words[1], *words[5::2]]):
        return "name"
    if numbered or bare:
        if not all(is_number(word) for word in words[2:]):
            return "number"
        return kind, words[1], *[ratio(word) for word in words[2:]]
    if not all(is_number(word) for word in [*words[2:4], *words[4::2]]) or "/" in "".join(words[4::2]):
        return "number"
    return kind, words[1], tuple(zip(words[5::2], map(int, words[4::2]))), ratio(words[2]), ratio(words[3])


def log_or_reason(text):
    """The deeds and those that may be done again that a text writes, or its reason and line."""
    rows = text.split("\n")
    if rows.pop() != "":
        return "line feed", text.count("\n") + 1
    if len(rows) < 2 or rows[-1] != "end":
        return "end", len(rows) or 1
    head = rows[0].split(" ")
    if len(head) != 2 or head[0] != "log" or head[1] not in [str(at) for at in range(len(rows) - 1)]:
        return "log", 1
    book, deeds = Book(), []
    for number, row in enumerate(rows[1:-1], 2):
        deed = deed_or_reason(row.split(" "))
        if isinstance(deed, str):
            return deed, number
        try:
            getattr(book, METHODS[deed[0]])(*deed[1:])
        except ValueError:
            return "deed", number
        deeds.append(deed)
        if len(deeds) > 200:
            return "deed", number
    return deeds[:int(head[1])], deeds[int(head[1]):]


class ParseCase(LogCase):
    def accept(self, text):
        log = parse_log(text)
        self.assertIs(type(log), Log)
        self.assertEqual(print_log(log), text)
        self.assertEqual((log.deeds(), log.undone()), log_or_reason(text))
        return log

    def refuse_text(self, text, reason, line):
        with self.assertRaises(ParseError) as caught:
            parse_log(text)
        self.assertIs(type(caught.exception), ParseError)
        self.assertEqual(vars(caught.exception), {"reason": reason, "line": line})
        self.assertEqual(log_or_reason(text), (reason, line))

    def check_text(self, text):
        expected = log_or_reason(text)
        if isinstance(expected[0], list):
            self.accept(text)
        else:
            self.refuse_text(text, *expected)


def lines(*rows):
    return "".join(row + "\n" for row in rows)


def log_lines(*rows):
    """The text of a log with these deeds, all of them done."""
    return lines(f"log {len(rows)}", *rows, "end")


BEFORE = ["point A 100", "point B 205/2", "reading d1 5/2 1 -1 A 1 B"]


class Parsed(ParseCase):
    def test_the_same_log_comes_back_and_goes_on_alike(self):
        for back in range(len(ALL_KINDS) + 1):
            log = log_by(ALL_KINDS, back)
            other = self.accept(print_log(log))
            self.check(other, log.deeds(), log.undone())
            for turn in ("undo", "redo", "redo", "undo", "undo"):
                outcomes = []
                for one in (log, other):
                    try:
                        outcomes.append(getattr(one, turn)())
                    except NothingToUndo:
                        outcomes.append("nothing")
                self.assertEqual(outcomes[0], outcomes[1])
                self.assertEqual(log_state(log), log_state(other))
            for one in (log, other):
                one.do(("point", "new", ONE))
            self.assertEqual(log_state(log), log_state(other))
            self.check(other, log.deeds())

    def test_the_example(self):
        log = self.accept(EXAMPLE)
        self.check(log, START, [("value", "d1", Ratio(12, 5))])
        log.redo()
        self.assertEqual(str(log.book().reading("d1").value), "12/5")

    def test_no_deeds(self):
        self.check(self.accept("log 0\nend\n"), [])

    def test_all_deeds_taken_back(self):
        self.check(self.accept(lines("log 0", *BEFORE, "end")), [], START)

    def test_numbers_of_nine_and_ten_digits(self):
        for good in ("999999999", "-999999999", "1/999999999", "-999999998/999999999", "0"):
            self.accept(log_lines(*BEFORE, f"value d1 {good}"))
            self.accept(log_lines(*BEFORE, f"approximation A {good}"))
            self.accept(log_lines(f"point A {good}"))
        for bad in ("1000000000", "-1000000000", "1/1000000000", "0999999999", "1000000000/3"):
            for kind in ("value d1", "weight d1", "approximation A", "point C"):
                self.refuse_text(log_lines(*BEFORE, f"{kind} {bad}"), "number", 5)
            self.refuse_text(log_lines(*BEFORE, f"reading d2 {bad} 1 1 A"), "number", 5)
            self.refuse_text(log_lines(*BEFORE, f"reading d2 1 {bad} 1 A"), "number", 5)

    def test_two_hundred_and_two_hundred_and_one(self):
        rows = [*BEFORE, *[f"value d1 {at}" for at in range(197)]]
        for done in (200, 199, 100, 0):
            log = self.accept(lines(f"log {done}", *rows, "end"))
            self.assertEqual((len(log.deeds()), len(log.undone())), (done, 200 - done))
        for done in (201, 200, 199, 100, 0):
            self.refuse_text(lines(f"log {done}", *rows, "withdraw d1", "end"), "deed", 202)
            self.refuse_text(lines(f"log {done}", *rows, "withdraw d1", "words", "end"), "deed", 202)
        self.refuse_text(lines("log 0", *rows, "words", "end"), "words", 202)


class Refused(ParseCase):
    def test_line_feed(self):
        self.refuse_text("log 0\nend", "line feed", 2)
        self.refuse_text("log 0", "line feed", 1)
        self.refuse_text("x\ny\nz", "line feed", 3)
        self.refuse_text(EXAMPLE[:-1], "line feed", 6)
        self.refuse_text(EXAMPLE + " ", "line feed", 7)

    def test_end(self):
        self.refuse_text("", "end", 1)
        self.refuse_text("\n", "end", 1)
        self.refuse_text("end\n", "end", 1)
        self.refuse_text("log 0\n", "end", 1)
        self.refuse_text("log 0\n\n", "end", 2)
        self.refuse_text("log 0\nEnd\n", "end", 2)
        self.refuse_text("log 0\nend \n", "end", 2)
        self.refuse_text("log 0\nend\n\n", "end", 3)
        self.refuse_text(EXAMPLE.replace("end\n", ""), "end", 5)
        self.refuse_text("x 0\nend now\n", "end", 2)

    def test_log(self):
        for first in (
            "", "log", "log ", "log 0 ", "log 0 0", " log 0", "log  0", "Log 0", "LOG 0", "book", "logs 0", "log 1",
            "log -1", "log -0", "log 00", "log +0", "log 0/1", "log x", "log 1000000000", "log 99999999999999999999",
            "0 log", "log 1/2", "log 0.0",
        ):
            self.refuse_text(lines(first, "end"), "log", 1)
        self.refuse_text("end\nend\n", "log", 1)

    def test_numbers_in_the_first_line(self):
        for at in range(4):
            self.accept(lines(f"log {at}", *BEFORE, "end"))
        for word in ("4", "5", "-1", "-3", "03", "+3", "3/1", "6/2", "3/2", "3.0", "999999999", "1000000000", "three"):
            self.refuse_text(lines(f"log {word}", *BEFORE, "end"), "log", 1)

    def test_words(self):
        for row in (
            "", " ", "points C 1", "Point C 1", "point", "point C", "point C 1 1", "point  C 1", " point C 1",
            "point C 1 ", "approximation A", "approximation A 1 1", "value d1", "value d1 1 1", "weight d1",
            "weight d1 1 1", "withdraw", "withdraw d1 1", "withdraw d1 ", "remove", "remove A 1", "reading",
            "reading d2", "reading d2 1", "reading d2 1 1", "reading d2 1 1 1", "reading d2 1 1 1 A 1",
            "reading d2 1 1 1 A 1 B 1", "undo", "redo", "end", "log 3", "book",
        ):
            self.refuse_text(log_lines(*BEFORE, row), "words", 5)

    def test_name(self):
        for name in ("", "1a", "_a", "a-b", "A" * 13, "a.b", "-1", "a/b"):
            for row in (
                f"point {name} 1", f"approximation {name} 1", f"value {name} 1", f"weight {name} 1",
                f"withdraw {name}", f"remove {name}", f"reading {name} 1 1 1 A", f"reading d2 1 1 1 {name}",
                f"reading d2 1 1 1 A 1 {name}", f"value {name} 03", f"reading {name} 03 03 x A",
            ):
                self.refuse_text(log_lines(*BEFORE, row), "name", 5)
        self.accept(log_lines(*BEFORE, "point " + "A" * 12 + " 1"))

    def test_number(self):
        for number in ("", "x", "03", "-0", "+1", "6/4", "3/1", "1.5", "1/0", "/2", "1/", "--1", "1/-2"):
            for row in (
                f"point C {number}", f"point A {number}", f"approximation A {number}", f"approximation Z {number}",
                f"value d1 {number}", f"value zz {number}", f"weight d1 {number}", f"reading d2 {number} 1 1 A",
                f"reading d2 1 {number} 1 A", f"reading d2 1 1 {number} A", f"reading d2 1 1 1 A {number} B",
                f"reading d1 {number} 0 0 Z",
            ):
                self.refuse_text(log_lines(*BEFORE, row), "number", 5)
        for number in ("1/2", "-7/4"):
            self.refuse_text(log_lines(*BEFORE, f"reading d2 1 1 {number} A"), "number", 5)

    def test_deed(self):
        for row in (
            "point A 1", "approximation C 1", "approximation d1 1", "value A 1", "value d2 1", "weight d2 1",
            "weight d1 0", "weight d1 -1", "withdraw A", "withdraw d2", "remove A", "remove C", "remove d1",
            "reading d1 1 1 1 A", "reading d2 1 1 0 A", "reading d2 1 1 10 A", "reading d2 1 1 -10 A",
            "reading d2 1 1 1 B 1 A", "reading d2 1 1 1 A 1 A", "reading d2 1 1 1 C", "reading d2 1 0 1 A",
            "reading d2 1 -1/2 1 A", "reading d2 1 1 999999999 A",
        ):
            self.refuse_text(log_lines(*BEFORE, row), "deed", 5)
            self.refuse_text(lines("log 0", *BEFORE, row, "end"), "deed", 5)

    def test_deeds_that_are_too_many_for_the_book(self):
        points = [f"point p{at} 1" for at in range(12)]
        self.accept(log_lines(*points))
        self.refuse_text(log_lines(*points, "point more 1"), "deed", 14)
        self.accept(log_lines(*points, "remove p3", "point more 1"))
        readings = [f"reading r{at} 1 1 1 A" for at in range(24)]
        self.accept(log_lines("point A 1", *readings))
        self.refuse_text(log_lines("point A 1", *readings, "reading more 1 1 1 A"), "deed", 27)

    def test_the_first_line_that_is_wrong_is_told(self):
        self.refuse_text(log_lines("point A 03", "x"), "number", 2)
        self.refuse_text(log_lines("point A 1", "point A 1", "x"), "deed", 3)
        self.refuse_text(log_lines("point A 1", "x", "point A 03"), "words", 3)
        self.refuse_text(lines("log 9", "x", "end"), "log", 1)
        self.refuse_text(lines("log 9", "x", "END"), "end", 3)
        self.refuse_text(lines("log 9", "x", "END") + "x", "line feed", 4)

    def test_deeds_that_may_be_done_again_are_done_behind_the_others(self):
        self.accept(lines("log 1", *BEFORE, "withdraw d1", "end"))
        self.refuse_text(lines("log 3", *BEFORE, "withdraw d1", "value d1 1", "end"), "deed", 6)
        self.refuse_text(lines("log 0", "value d1 1", *BEFORE, "end"), "deed", 2)


class OtherTexts(ParseCase):
    LONGER = print_log(log_by(ALL_KINDS, 4))

    def test_another_character(self):
        for at in range(len(EXAMPLE)):
            for other in ("", " ", "\n", "0", "1", "/", "-", "A", "B", "_", EXAMPLE[at] * 2):
                self.check_text(EXAMPLE[:at] + other + EXAMPLE[at + 1:])
        for at in range(len(self.LONGER)):
            for other in ("", " ", "2", "C", "\n"):
                self.check_text(self.LONGER[:at] + other + self.LONGER[at + 1:])

    def test_shorter_texts(self):
        for at in range(len(self.LONGER)):
            self.check_text(self.LONGER[:at])
            self.check_text(self.LONGER[at:])

    def test_other_orders_of_lines(self):
        rows = self.LONGER.splitlines(keepends=True)
        for first in range(len(rows)):
            self.check_text("".join(rows[:first] + rows[first + 1:]))
            for second in range(len(rows)):
                changed = list(rows)
                changed[first], changed[second] = changed[second], changed[first]
                self.check_text("".join(changed))


class Interface(unittest.TestCase):
    def test_methods_stand_in_the_class(self):
        for name, arguments in (
            ("__init__", []), ("do", ["deed"]), ("undo", []), ("redo", []), ("deeds", []), ("undone", []),
            ("book", []), ("heights", []), ("misfits", []), ("squares", []), ("rank", []),
        ):
            self.assertEqual(list(inspect.signature(vars(Log)[name]).parameters), ["self", *arguments])
        self.assertEqual(Log.__module__, "plumbnet.history")

    def test_functions(self):
        for name, arguments in (("print_log", ["log"]), ("parse_log", ["text"])):
            self.assertEqual(list(inspect.signature(getattr(history, name)).parameters), arguments)
            self.assertEqual(getattr(history, name).__module__, "plumbnet.history")


if __name__ == "__main__":
    unittest.main()
