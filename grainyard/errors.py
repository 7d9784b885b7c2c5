"""The errors of the package.

The messages hold no values: a number of many digits cannot be written into one.
"""


class GrainError(ValueError):
    """The base class of errors about wrong values; it is not constructed itself."""


class GrainMissing(LookupError):
    """The base class of errors about what is not there; it is not constructed itself."""


class BadRoot(GrainError):
    """A number that is not a root."""

    def __init__(self, number):
        super().__init__("the number is not a root")
        self.word = "BadRoot"
        self.number = number


class BadCount(GrainError):
    """A number out of the range that its place allows."""

    def __init__(self, number):
        super().__init__("the number is out of its range")
        self.word = "BadCount"
        self.number = number


class BadLength(GrainError):
    """A pair that is not a length, by its index."""

    def __init__(self, at):
        super().__init__("a pair is not a length")
        self.word = "BadLength"
        self.at = at


class BadSheet(GrainError):
    """A tuple of two pairs that is not a sheet."""

    def __init__(self):
        super().__init__("the pairs are not a sheet")
        self.word = "BadSheet"


class BadRow(GrainError):
    """A row whose sheet or count is wrong, by its index."""

    def __init__(self, at):
        super().__init__("a row has no sheet or no count")
        self.word = "BadRow"
        self.at = at


class OtherRoot(GrainError):
    """Heaps with different roots."""

    def __init__(self):
        super().__init__("the roots differ")
        self.word = "OtherRoot"


class BadStep(GrainError):
    """A tuple that is not a step or is not possible, by its index."""

    def __init__(self, at):
        super().__init__("a step is wrong or not possible")
        self.word = "BadStep"
        self.at = at


class NotLinked(GrainError):
    """Heaps that are not linked, with the index of the first mark that differs."""

    def __init__(self, number):
        super().__init__("the heaps are not linked")
        self.word = "NotLinked"
        self.number = number


class NotEnough(GrainError):
    """An area from which something cannot be made."""

    def __init__(self):
        super().__init__("the area is not enough")
        self.word = "NotEnough"


class TooGreat(GrainError):
    """Marks that are too great, with the most that is allowed."""

    def __init__(self, most):
        super().__init__("the marks are too great")
        self.word = "TooGreat"
        self.most = most


class BadWidths(GrainError):
    """Two widths of which one is a multiple of the other one."""

    def __init__(self):
        super().__init__("one width is a multiple of the other one")
        self.word = "BadWidths"


class NoSquares(GrainError):
    """A heap that cannot be changed into squares, with a reason."""

    def __init__(self, reason):
        super().__init__("the heap cannot be changed into squares")
        self.word = "NoSquares"
        self.reason = reason


class BadForm(GrainError):
    """A tuple of three numbers that is not a form."""

    def __init__(self):
        super().__init__("the numbers are not a form")
        self.word = "BadForm"


class BadText(GrainError):
    """A text that is not written as it must be, with the index of a line."""

    def __init__(self, at):
        super().__init__("the text is not written so")
        self.word = "BadText"
        self.at = at


class BadName(GrainError):
    """A text that is not a name."""

    def __init__(self, name):
        super().__init__("the text is not a name")
        self.word = "BadName"
        self.name = name


class Taken(GrainError):
    """A name that is taken."""

    def __init__(self, name):
        super().__init__("the name is taken")
        self.word = "Taken"
        self.name = name


class Full(GrainError):
    """A yard without a place for one more, with the most that it holds."""

    def __init__(self, most):
        super().__init__("there is no place for one more")
        self.word = "Full"
        self.most = most


class BadDeed(GrainError):
    """A tuple that is not a deed, by its index."""

    def __init__(self, at):
        super().__init__("a tuple is not a deed")
        self.word = "BadDeed"
        self.at = at


class NoSheet(GrainMissing):
    """A sheet of which there are too few copies."""

    def __init__(self, sheet):
        super().__init__("there are too few copies of the sheet")
        self.word = "NoSheet"
        self.sheet = sheet


class NoName(GrainMissing):
    """A name that no heap has."""

    def __init__(self, name):
        super().__init__("there is no heap with the name")
        self.word = "NoName"
        self.name = name


class NoOrder(GrainMissing):
    """A name that no order has."""

    def __init__(self, name):
        super().__init__("there is no order with the name")
        self.word = "NoOrder"
        self.name = name


class NothingLeft(IndexError):
    """No batch is left to undo or to redo."""

    def __init__(self):
        super().__init__("there is no batch left")
        self.word = "NothingLeft"
