"""The errors of the package, in families. Each keeps the very objects that it was given."""


class ChosenError(ValueError):
    """The base class of all errors of the package."""


class PaperError(ChosenError):
    """A paper, a table or another checked value is not accepted."""


class TableError(ChosenError):
    """Something is not in the table."""


class StepError(ChosenError):
    """A step cannot be done."""


class TextError(ChosenError):
    """A text is not the written form of a value."""


class InvalidPaper(PaperError):
    """The first entry of a checker whose condition holds."""

    def __init__(self, word, at):
        self.word = word
        self.at = at


class UnknownName(TableError):
    """A name that is no item of the table, or no candidate of the item."""

    def __init__(self, name):
        self.name = name


class UnknownPair(TableError):
    """A pair that is not a pair of the table."""

    def __init__(self, pair):
        self.pair = pair


class InvalidStep(StepError):
    """A step, and the reason why it cannot be done."""

    def __init__(self, step, reason):
        self.step = step
        self.reason = reason


class NothingToUndo(StepError):
    """There is no step that could be undone."""

    def __init__(self, steps):
        self.steps = steps


class InvalidText(TextError):
    """The first invalid line of a text, and its first invalid field."""

    def __init__(self, line, field):
        self.line = line
        self.field = field


class InvalidRow(TextError):
    """A string that has none of the forms that a desk accepts."""

    def __init__(self, row):
        self.row = row
