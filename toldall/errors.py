"""All errors of the program, with their families."""


class ToldError(ValueError):
    """The base class of all errors of the program."""


class PaperError(ToldError):
    """The family of what checkers raise."""


class BookError(ToldError):
    """The family of arguments that cannot be used, and of machines that are no books."""


class HouseError(ToldError):
    """The family of what houses raise."""


class TextError(ToldError):
    """The family of strings that write nothing."""


class InvalidPaper(PaperError):
    """A value has not the form that a checker asks for."""

    def __init__(self, word, at):
        self.word = word
        self.at = at


class NotUsable(BookError):
    """A value of a parameter cannot be used."""

    def __init__(self, word, at):
        self.word = word
        self.at = at


class NotClosed(BookError):
    """Of two alike rows the first one alone is a run."""

    def __init__(self, row, other):
        self.row = row
        self.other = other


class InvalidEvent(HouseError):
    """An event is not possible."""

    def __init__(self, event, reason):
        self.event = event
        self.reason = reason


class NothingToUndo(HouseError):
    """There is nothing that can be taken back."""

    def __init__(self, steps):
        self.steps = steps


class Broken(HouseError):
    """One of several events was not possible."""

    def __init__(self, many):
        self.many = many


class InvalidText(TextError):
    """A text does not write a value: its first wrong line and word."""

    def __init__(self, line, field):
        self.line = line
        self.field = field


class InvalidRow(TextError):
    """A row of signs does not write a value."""

    def __init__(self, row):
        self.row = row
