"""Exact fractions."""

from math import gcd

from plumbnet.errors import BadNumber, ZeroDivisor

MOST_DIGITS = 9


class Ratio:
    """A fraction in lowest terms with a bottom of at least 1; it never changes."""

    def __init__(self, top, bottom=1):
        if bottom == 0:
            raise ZeroDivisor()
        common = gcd(top, bottom)
        # The minus sign belongs to the top, so that equal fractions have equal attributes.
        if bottom < 0:
            common = -common
        self.top = top // common
        self.bottom = bottom // common

    @staticmethod
    def of(text):
        """The Ratio that a text writes."""
        head, slash, tail = text.partition("/")
        if not is_short(head.removeprefix("-")):
            raise BadNumber(text)
        if slash == "":
            tail = "1"
        if not is_short(tail) or int(tail) == 0:
            raise BadNumber(text)
        ratio = Ratio(int(head), int(tail))
        # Each Ratio has one written form: another text for the same number (03, -0, 6/4) is refused.
        if str(ratio) != text:
            raise BadNumber(text)
        return ratio

    def over(self, other):
        """This Ratio divided by another one."""
        # An other one of 0 makes a bottom of 0, which is refused as ZeroDivisor.
        return Ratio(self.top * other.bottom, self.bottom * other.top)

    def __add__(self, other):
        return Ratio(self.top * other.bottom + other.top * self.bottom, self.bottom * other.bottom)

    def __sub__(self, other):
        return Ratio(self.top * other.bottom - other.top * self.bottom, self.bottom * other.bottom)

    def __mul__(self, other):
        return Ratio(self.top * other.top, self.bottom * other.bottom)

    def __neg__(self):
        return Ratio(-self.top, self.bottom)

    def __abs__(self):
        return Ratio(abs(self.top), self.bottom)

    def __eq__(self, other):
        if not isinstance(other, Ratio):
            return False
        return self.top == other.top and self.bottom == other.bottom

    def __ne__(self, other):
        if not isinstance(other, Ratio):
            return True
        return self.top != other.top or self.bottom != other.bottom

    # Bottoms are greater than 0, so multiplying by them keeps the order.

    def __lt__(self, other):
        return self.top * other.bottom < other.top * self.bottom

    def __le__(self, other):
        return self.top * other.bottom <= other.top * self.bottom

    def __gt__(self, other):
        return self.top * other.bottom > other.top * self.bottom

    def __ge__(self, other):
        return self.top * other.bottom >= other.top * self.bottom

    def __str__(self):
        if self.bottom == 1:
            return str(self.top)
        return f"{self.top}/{self.bottom}"


def is_short(word):
    """True if a word consists of digits, not more than a number that is read may have."""
    return word.isascii() and word.isdigit() and len(word) <= MOST_DIGITS
