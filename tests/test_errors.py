"""The interface of plumbnet/errors.py, and points 101, 102: which errors are raised."""

import unittest

from plumbnet import errors
from plumbnet.ratio import Ratio

ATTRIBUTES = {
    "BadNumber": ("text",),
    "ZeroDivisor": (),
    "UnknownPoint": ("name",),
    "UnknownReading": ("name",),
    "DuplicateName": ("name",),
    "BadReading": ("reason",),
    "LimitReached": ("what",),
    "WeakDatum": ("movement",),
    "ParseError": ("reason", "line"),
    "NothingToUndo": (),
    "NotEstimable": ("movement",),
}

VALUES = {
    "text": "6/4",
    "name": "d1",
    "reason": "terms",
    "what": "points",
    "movement": (Ratio(1), Ratio(-1, 2)),
    "line": 7,
}


class ErrorClasses(unittest.TestCase):
    def test_base_is_a_value_error(self):
        self.assertEqual(errors.SurveyError.__bases__, (ValueError,))

    def test_each_class_derives_directly_from_the_base(self):
        for name in ATTRIBUTES:
            with self.subTest(name):
                kind = getattr(errors, name)
                self.assertEqual(kind.__bases__, (errors.SurveyError,))
                self.assertEqual(kind.__module__, "plumbnet.errors")

    def test_arguments_become_attributes(self):
        for name, attributes in ATTRIBUTES.items():
            with self.subTest(name):
                error = getattr(errors, name)(*[VALUES[one] for one in attributes])
                self.assertEqual(vars(error), {one: VALUES[one] for one in attributes})
                self.assertIsInstance(str(error), str)

    def test_arguments_may_be_named(self):
        for name, attributes in ATTRIBUTES.items():
            with self.subTest(name):
                error = getattr(errors, name)(**{one: VALUES[one] for one in attributes})
                self.assertEqual(vars(error), {one: VALUES[one] for one in attributes})

    def test_each_is_caught_as_a_survey_error(self):
        for name, attributes in ATTRIBUTES.items():
            with self.subTest(name), self.assertRaises(errors.SurveyError):
                raise getattr(errors, name)(*[VALUES[one] for one in attributes])

    def test_parse_error_keeps_reason_and_line_apart(self):
        error = errors.ParseError("words", 3)
        self.assertEqual((error.reason, error.line), ("words", 3))


if __name__ == "__main__":
    unittest.main()
