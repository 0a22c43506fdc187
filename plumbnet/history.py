"""Logs: books that are kept by deeds, which can be taken back and done again."""

from plumbnet.adjust import net_of
from plumbnet.books import Book, Reading
from plumbnet.errors import BadNumber, LimitReached, NothingToUndo, ParseError, SurveyError
from plumbnet.ratio import Ratio
from plumbnet.text import check_names, fit_reading, lines_of, number_of, reading_line, reading_parts

MOST_DEEDS = 200
# The first words of the deeds that have a name and a number, and of those that have a name alone.
NUMBERED = ("point", "approximation", "value", "weight")
BARE = ("withdraw", "remove")


class Log:
    """Deeds that were done, deeds that may be done again, and the book that those done make."""

    def __init__(self):
        # Behind the empty book stands for each deed the book behind it, which is not changed any more.
        self._books = [Book()]
        self._done = []
        # The one that is done again first stands last.
        self._back = []
        # The net of the last book, or None as long as nobody has asked for it.
        self._net = None

    def do(self, deed):
        """Does a deed and discards those that might be done again."""
        book = self.book()
        carry_out(book, deed)
        if len(self._done) >= MOST_DEEDS:
            raise LimitReached("deeds")
        self._keep(deed, book)
        self._back = []

    def undo(self):
        """Takes back the last deed."""
        if len(self._done) == 0:
            raise NothingToUndo()
        self._back.append(self._done.pop())
        del self._books[-1]
        self._net = None

    def redo(self):
        """Does again the deed that was taken back last."""
        if len(self._back) == 0:
            raise NothingToUndo()
        deed = self._back.pop()
        book = self.book()
        carry_out(book, deed)
        self._keep(deed, book)

    def deeds(self):
        """The deeds that were done and not taken back."""
        return list(self._done)

    def undone(self):
        """The deeds that may be done again, the next one first."""
        return list(reversed(self._back))

    def book(self):
        """A new book as the deeds make it."""
        return self._books[-1].twin()

    def heights(self):
        """The told heights of the book."""
        return self._told().heights()

    def misfits(self):
        """The misfits at the told heights of the book."""
        return self._told().misfits()

    def squares(self):
        """The squares at the told heights of the book."""
        return self._told().squares()

    def rank(self):
        """The rank of the rows of the book's readings."""
        return self._told().rank()

    def _keep(self, deed, book):
        self._done.append(deed)
        self._books.append(book)
        self._net = None

    def _told(self):
        """The net of the book."""
        if self._net is None:
            self._net = net_of(self._books[-1])
        return self._net


def carry_out(book, deed):
    """Does to the book what a deed tells."""
    word, name, *parts = deed
    if word == "point":
        book.add_point(name, parts[0])
    elif word == "reading":
        book.add_reading(name, parts[0], parts[1], parts[2])
    elif word == "approximation":
        book.change_approximation(name, parts[0])
    elif word == "value":
        book.change_value(name, parts[0])
    elif word == "weight":
        book.change_weight(name, parts[0])
    elif word == "withdraw":
        book.withdraw(name)
    elif word == "remove":
        book.remove_point(name)


def print_log(log):
    """The text of a log."""
    done = log.deeds()
    lines = [f"log {len(done)}"]
    for deed in [*done, *log.undone()]:
        lines.append(deed_line(deed))
    lines.append("end")
    return "".join([line + "\n" for line in lines])


def deed_line(deed):
    """The line of a deed."""
    if deed[0] == "reading":
        _, name, terms, value, weight = deed
        return reading_line(Reading(name, terms, value, weight))
    return " ".join([str(part) for part in deed])


def parse_log(text):
    """The Log that a text writes."""
    lines = lines_of(text)
    if len(lines) < 2 or lines[-1] != "end":
        raise ParseError("end", max(1, len(lines)))
    rows = lines[1:-1]
    done = count_of(lines[0], len(rows))
    log = Log()
    for number, line in enumerate(rows, start=2):
        do_line(log, line.split(" "), number)
    for _ in range(len(rows) - done):
        log.undo()
    return log


def count_of(line, most):
    """The number of deeds that the first line tells, which is at most this."""
    words = line.split(" ")
    if len(words) != 2 or words[0] != "log":
        raise ParseError("log", 1)
    try:
        number = Ratio.of(words[1])
    except BadNumber:
        raise ParseError("log", 1) from None
    if number.bottom != 1 or number.top < 0 or number.top > most:
        raise ParseError("log", 1)
    return number.top


def do_line(log, words, line):
    """Does the deed that the words of a line write."""
    deed = deed_of(words, line)
    try:
        log.do(deed)
    except SurveyError:
        raise ParseError("deed", line) from None


def deed_of(words, line):
    """The deed that the words of a line write."""
    if words[0] == "reading" and fit_reading(words):
        name, terms, value, weight = reading_parts(words, line)
        return "reading", name, terms, value, weight
    if words[0] in NUMBERED and len(words) == 3:
        check_names([words[1]], line)
        return words[0], words[1], number_of(words[2], line)
    if words[0] in BARE and len(words) == 2:
        check_names([words[1]], line)
        return words[0], words[1]
    raise ParseError("words", line)
