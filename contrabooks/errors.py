"""The errors of all modules.

Each keeps its constructor arguments as they are; no message is made of them, for they may be anything.
"""


class BookError(ValueError):
    """The base class of what can be wrong with the values of this package."""


class InvalidMove(BookError):
    """A move or a history cannot be made: `word` names the wrong argument."""

    def __init__(self, word):
        self.word = word


class InvalidRow(BookError):
    """A row cannot be made: `word` names the wrong argument."""

    def __init__(self, word):
        self.word = word


class InvalidHouse(BookError):
    """A house cannot be made: `word` names the wrong argument."""

    def __init__(self, word):
        self.word = word


class InvalidReport(BookError):
    """A report cannot be made: `word` names the wrong argument."""

    def __init__(self, word):
        self.word = word


class InvalidText(BookError):
    """A text cannot be read: `at` is the number of the wrong part or line."""

    def __init__(self, at):
        self.at = at


class InvalidGoal(BookError):
    """There is no such goal, or it needs a report."""

    def __init__(self):
        super().__init__("no such goal")


class InvalidCommand(BookError):
    """There is no such command."""

    def __init__(self):
        super().__init__("no such command")


class Refused(BookError):
    """A house does not let a move: `at` is its number."""

    def __init__(self, at):
        self.at = at


class NoEntry(IndexError):
    """A book has no entry with the number `at`."""

    def __init__(self, at):
        self.at = at


class NoRow(IndexError):
    """A house has no row with the number `at`."""

    def __init__(self, at):
        self.at = at
