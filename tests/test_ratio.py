"""Points 101 and 102, and the interface of plumbnet/ratio.py."""

import operator
import unittest
from fractions import Fraction
from itertools import product
from math import gcd

from plumbnet.errors import BadNumber, ZeroDivisor
from plumbnet.ratio import Ratio

LONG = 123456789012345678901234567890
LONGER = 987654321098765432109876543211

PAIRS = [(top, bottom) for top in range(-6, 7) for bottom in range(-6, 7) if bottom != 0]
PAIRS += [(LONG, LONGER), (-LONG, 3 * LONGER), (LONG, -LONG), (LONGER * 7, LONG * 7), (1, LONG), (LONG, 1)]


def parts(ratio):
    return ratio.top, ratio.bottom


def parts_of(fraction):
    return fraction.numerator, fraction.denominator


class LowestTerms(unittest.TestCase):
    def check(self, top, bottom, expected):
        self.assertEqual(parts(Ratio(top, bottom)), expected)

    def test_bottom_is_1_if_it_is_left_out(self):
        self.assertEqual(parts(Ratio(5)), (5, 1))
        self.assertEqual(parts(Ratio(-5)), (-5, 1))
        self.assertEqual(parts(Ratio(0)), (0, 1))

    def test_arguments_may_be_named(self):
        self.assertEqual(parts(Ratio(top=6, bottom=4)), (3, 2))

    def test_signs(self):
        self.check(1, 2, (1, 2))
        self.check(-1, 2, (-1, 2))
        self.check(1, -2, (-1, 2))
        self.check(-1, -2, (1, 2))
        self.check(-6, -4, (3, 2))
        self.check(6, -4, (-3, 2))

    def test_zero_has_the_bottom_1(self):
        for bottom in (1, -1, 2, -7, LONG, -LONG):
            self.check(0, bottom, (0, 1))

    def test_common_factors(self):
        self.check(6, 4, (3, 2))
        self.check(4, 6, (2, 3))
        self.check(12, 4, (3, 1))
        self.check(7, 7, (1, 1))
        self.check(-7, 7, (-1, 1))
        self.check(35, 64, (35, 64))

    def test_long_integers(self):
        self.check(LONG * 6, LONG * 4, (3, 2))
        self.check(LONG, LONG + 1, (LONG, LONG + 1))
        self.check(LONG * LONGER, -LONGER, (-LONG, 1))
        self.check(-LONGER, -LONG * LONGER, (1, LONG))

    def test_all_small_ones(self):
        for top, bottom in PAIRS:
            with self.subTest((top, bottom)):
                ratio = Ratio(top, bottom)
                self.assertGreaterEqual(ratio.bottom, 1)
                self.assertEqual(gcd(ratio.top, ratio.bottom), 1)
                self.assertEqual(ratio.top * bottom, top * ratio.bottom)
                self.assertEqual(parts(ratio), parts_of(Fraction(top, bottom)))
                self.assertIs(type(ratio.top), int)
                self.assertIs(type(ratio.bottom), int)

    def test_bottom_0_is_refused(self):
        for top in (0, 1, -1, LONG):
            with self.assertRaises(ZeroDivisor):
                Ratio(top, 0)


class Calculations(unittest.TestCase):
    def check_all(self, action, expected):
        for a, b in product(PAIRS, PAIRS[::5] + PAIRS[-6:]):
            first, second = Ratio(*a), Ratio(*b)
            result = action(first, second)
            self.assertIs(type(result), Ratio)
            self.assertEqual(parts(result), parts_of(expected(Fraction(*a), Fraction(*b))), (a, b))
            self.assertEqual(parts(first), parts_of(Fraction(*a)))
            self.assertEqual(parts(second), parts_of(Fraction(*b)))

    def test_sum(self):
        self.check_all(operator.add, operator.add)

    def test_difference(self):
        self.check_all(operator.sub, operator.sub)

    def test_product(self):
        self.check_all(operator.mul, operator.mul)

    def test_negative(self):
        self.check_all(lambda a, b: -a, lambda a, b: -a)

    def test_absolute(self):
        self.check_all(lambda a, b: abs(a), lambda a, b: abs(a))

    def test_over(self):
        for a, b in product(PAIRS, PAIRS):
            if b[0] == 0:
                continue
            first, second = Ratio(*a), Ratio(*b)
            result = first.over(second)
            self.assertIs(type(result), Ratio)
            self.assertEqual(parts(result), parts_of(Fraction(*a) / Fraction(*b)), (a, b))
            self.assertEqual(parts(first), parts_of(Fraction(*a)))
            self.assertEqual(parts(second), parts_of(Fraction(*b)))

    def test_over_0_is_refused_and_changes_nothing(self):
        for one in (Ratio(1), Ratio(0), Ratio(-7, 4)):
            before, divisor = parts(one), Ratio(0, 5)
            with self.assertRaises(ZeroDivisor):
                one.over(divisor)
            self.assertEqual(parts(one), before)
            self.assertEqual(parts(divisor), (0, 1))

    def test_plain_results(self):
        self.assertEqual(parts(Ratio(1, 2) + Ratio(1, 3)), (5, 6))
        self.assertEqual(parts(Ratio(1, 2) - Ratio(1, 2)), (0, 1))
        self.assertEqual(parts(Ratio(2, 3) * Ratio(3, 2)), (1, 1))
        self.assertEqual(parts(Ratio(1, 2).over(Ratio(-1, 4))), (-2, 1))
        self.assertEqual(parts(-Ratio(0)), (0, 1))
        self.assertEqual(parts(abs(Ratio(-7, 4))), (7, 4))


class Comparisons(unittest.TestCase):
    def check_all(self, action):
        for a, b in product(PAIRS, PAIRS):
            first, second = Ratio(*a), Ratio(*b)
            self.assertIs(action(first, second), action(Fraction(*a), Fraction(*b)), (a, b))
            self.assertEqual(parts(first), parts_of(Fraction(*a)))
            self.assertEqual(parts(second), parts_of(Fraction(*b)))

    def test_equal(self):
        self.check_all(operator.eq)

    def test_unequal(self):
        self.check_all(operator.ne)

    def test_less(self):
        self.check_all(operator.lt)

    def test_less_or_equal(self):
        self.check_all(operator.le)

    def test_greater(self):
        self.check_all(operator.gt)

    def test_greater_or_equal(self):
        self.check_all(operator.ge)

    def test_long_ones_that_differ_little(self):
        low, high = Ratio(LONG, LONG + 1), Ratio(LONG + 1, LONG + 2)
        self.assertTrue(low < high and low <= high and low != high)
        self.assertFalse(low > high or low >= high or low == high)

    def test_anything_else_is_unequal(self):
        for ratio, others in (
            (Ratio(1), (1, True, "1", None, (1, 1), [Ratio(1)], 1.0, Fraction(1))),
            (Ratio(0), (0, False, "0", "", None, (), 0.0)),
            (Ratio(1, 2), (0, 1, "1/2", None, 0.5, Fraction(1, 2))),
        ):
            for other in others:
                with self.subTest((str(ratio), other)):
                    self.assertIs(ratio == other, False)
                    self.assertIs(ratio != other, True)

    def test_integer_text_and_none_on_the_left(self):
        for other in (1, "1", None):
            self.assertIs(other == Ratio(1), False)
            self.assertIs(other != Ratio(1), True)


class WrittenForm(unittest.TestCase):
    def test_plain_forms(self):
        for top, bottom, text in (
            (3, 1, "3"),
            (0, 1, "0"),
            (0, -9, "0"),
            (-3, 1, "-3"),
            (-7, 4, "-7/4"),
            (7, -4, "-7/4"),
            (6, 4, "3/2"),
            (1, 10, "1/10"),
            (100, 10, "10"),
            (205, 2, "205/2"),
            (999999999, 1000000000, "999999999/1000000000"),
            (LONG, LONG + 1, f"{LONG}/{LONG + 1}"),
            (-LONG, 1, f"-{LONG}"),
        ):
            with self.subTest(text):
                self.assertEqual(str(Ratio(top, bottom)), text)

    def test_longest_written_form(self):
        top, bottom = 10 ** 3999, 10 ** 4000 - 1
        self.assertEqual(str(Ratio(top, bottom)), "1" + "0" * 3999 + "/" + "9" * 4000)
        self.assertEqual(str(Ratio(-bottom)), "-" + "9" * 4000)


class Reading(unittest.TestCase):
    def refuse(self, text):
        with self.subTest(text):
            with self.assertRaises(BadNumber) as caught:
                Ratio.of(text)
            self.assertEqual(caught.exception.text, text)

    def test_written_forms_are_read(self):
        for text, expected in (
            ("3", (3, 1)),
            ("0", (0, 1)),
            ("-7/4", (-7, 4)),
            ("-1", (-1, 1)),
            ("10", (10, 1)),
            ("100/7", (100, 7)),
            ("1/2", (1, 2)),
            ("205/2", (205, 2)),
            ("999999999", (999999999, 1)),
            ("-999999999", (-999999999, 1)),
            ("1/999999999", (1, 999999999)),
            ("-999999998/999999999", (-999999998, 999999999)),
            ("123456789/987654320", (123456789, 987654320)),
        ):
            with self.subTest(text):
                ratio = Ratio.of(text)
                self.assertIs(type(ratio), Ratio)
                self.assertEqual(parts(ratio), expected)
                self.assertEqual(str(ratio), text)

    def test_written_forms_of_small_ones_are_read(self):
        for top, bottom in PAIRS[:-6]:
            ratio = Ratio(top, bottom)
            self.assertEqual(Ratio.of(str(ratio)), ratio)

    def test_other_forms_of_a_number_are_refused(self):
        for text in (
            "03", "00", "-0", "-00", "-03", "+1", "+0", "+1/2", "6/4", "3/1", "0/1", "0/5", "-0/5", "-6/4", "4/4",
            "1.5", "1.0", ".5", "1e3", "1_000", "0x1", "1/02", "01/2", "1/-2", "-1/-2", "1/+2", "-3/1", "3/0", "0/0",
            "-1/0", "1/00",
        ):
            self.refuse(text)

    def test_texts_that_are_no_numbers_are_refused(self):
        for text in (
            "", " ", "-", "--1", "---", "/", "-/", "1/", "/2", "-/2", "-1/", "1//2", "/1/2", "1/2/", "1/2/3", "1-",
            "1/2-", "1/-", "a", "one", "1a", "a1", "1/a", "a/2", "1:2", "1|2", "1\\2", "1-2", "1 2", "1,5", "(1)",
            "None", "nan", "inf", "True",
        ):
            self.refuse(text)

    def test_blanks_and_line_feeds_are_refused(self):
        for text in ("3", "-7/4"):
            for at in range(len(text) + 1):
                self.refuse(text[:at] + " " + text[at:])
                self.refuse(text[:at] + "\n" + text[at:])

    def test_a_character_too_few_or_another_one(self):
        for text in ("-7/4", "12/5", "-10/3"):
            for at in range(len(text)):
                for other in ("", "x", "/", "-", "+", ".", ":", "a", "~", "!", "0", "9"):
                    self.check_as_written_form(text[:at] + other + text[at + 1:])

    def check_as_written_form(self, text):
        """Reads the text if a short fraction is written so, and expects that it is refused otherwise."""
        try:
            top, _, bottom = text.partition("/")
            fraction = Fraction(int(top), int(bottom or "1"))
        except (ValueError, ZeroDivisionError):
            self.refuse(text)
            return
        if str(fraction) == text:
            self.assertEqual(parts(Ratio.of(text)), parts_of(fraction))
        else:
            self.refuse(text)

    def test_all_short_texts(self):
        for length in range(5):
            for letters in product("-/012", repeat=length):
                self.check_as_written_form("".join(letters))

    def test_ten_digits_are_refused(self):
        for text in (
            "1000000000", "-1000000000", "1000000000/3", "1/1000000000", "-1/1234567891", "9999999999",
            "1234567891/2", "0000000001", "1/0000000002", str(LONG), f"{LONG}/{LONGER}", "1" * 5000, "1/" + "1" * 5000,
        ):
            self.refuse(text)


class Interface(unittest.TestCase):
    def test_methods_stand_in_the_class(self):
        for name in (
            "__add__", "__sub__", "__mul__", "__neg__", "__abs__", "__eq__", "__ne__", "__lt__", "__le__", "__gt__",
            "__ge__", "over", "__str__", "of",
        ):
            self.assertIn(name, vars(Ratio))
        self.assertIsInstance(vars(Ratio)["of"], staticmethod)
        self.assertEqual(Ratio.__module__, "plumbnet.ratio")

    def test_example_of_the_document(self):
        self.assertEqual(str(Ratio.of("-7/4") + Ratio(3, 6)), "-5/4")


if __name__ == "__main__":
    unittest.main()
