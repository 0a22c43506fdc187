"""The errors that plumbnet raises."""


class SurveyError(ValueError):
    """The base class of all errors of plumbnet."""


class BadNumber(SurveyError):
    """A text is not the written form of a number that can be read."""

    def __init__(self, text):
        super().__init__(f"not a number that can be read: {text!r}")
        self.text = text


class ZeroDivisor(SurveyError):
    """A number is divided by 0."""

    def __init__(self):
        super().__init__("a number is divided by 0")


class UnknownPoint(SurveyError):
    """There is no point of this name."""

    def __init__(self, name):
        super().__init__(f"there is no point {name}")
        self.name = name


class UnknownReading(SurveyError):
    """There is no reading of this name."""

    def __init__(self, name):
        super().__init__(f"there is no reading {name}")
        self.name = name


class DuplicateName(SurveyError):
    """A name that must be new is taken."""

    def __init__(self, name):
        super().__init__(f"the name {name} is taken")
        self.name = name


class BadReading(SurveyError):
    """A reading, or what would be done to it, is not allowed."""

    def __init__(self, reason):
        super().__init__(f"not allowed for a reading: {reason}")
        self.reason = reason


class LimitReached(SurveyError):
    """There would be more of something than is allowed."""

    def __init__(self, what):
        super().__init__(f"there are too many {what}")
        self.what = what


class WeakDatum(SurveyError):
    """A datum leaves the heights free to move along a movement."""

    def __init__(self, movement):
        super().__init__("the datum does not hold a movement")
        self.movement = movement


class ParseError(SurveyError):
    """A text is refused at a line, counted from 1."""

    def __init__(self, reason, line):
        super().__init__(f"line {line}: {reason}")
        self.reason = reason
        self.line = line


class NothingToUndo(SurveyError):
    """No deed can be taken back, or none can be done again."""

    def __init__(self):
        super().__init__("there is nothing to undo or to redo")


class NotEstimable(SurveyError):
    """A movement changes the value of a function."""

    def __init__(self, movement):
        super().__init__("a movement changes the function")
        self.movement = movement
