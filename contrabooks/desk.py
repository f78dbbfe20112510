"""Desks: a ledger and a report that are led by commands."""

from contrabooks.basics import read_number
from contrabooks.deciding import goals, has_goal, least
from contrabooks.errors import InvalidCommand
from contrabooks.houses import House
from contrabooks.ledger import Ledger
from contrabooks.moves import read_move
from contrabooks.reports import Report


def say_house(desk, text):
    """Begin a new ledger of the house with a text."""
    desk.ledger = Ledger(House.read(with_lines(text)))
    return str(len(desk.ledger.house))


def say_report(desk, text):
    """Keep the report with a text."""
    desk.report = Report.read(with_lines(text))
    return str(len(desk.report.rows))


def say_do(desk, text):
    """Do the move with a text."""
    move = read_move(text)
    if move is None:
        raise InvalidCommand()
    return listed(desk.ledger.do(move))


def say_left(desk, text):
    """Tell what is left of an entry."""
    return str(desk.ledger.book.left_of(number_in(text)))


def say_kind(desk, text):
    """Tell the kind of an entry."""
    return desk.ledger.book.kind_of(number_in(text))


def say_figures(desk):
    """Tell the figures of the report."""
    report = desk.report
    return str(report(desk.ledger.book))


def say_goals(desk):
    """Tell the goals that happen."""
    return listed(goals(desk.ledger.house, desk.report))


def say_least(desk, text):
    """Tell a shortest history that comes to a goal."""
    if not has_goal(text, desk.report):
        raise InvalidCommand()
    found = least(desk.ledger.house, text, desk.report)
    return "never" if found is None else str(found)


def say_undo(desk):
    """Take back the last move."""
    return "undone" if desk.ledger.undo() else "nothing"


def with_lines(text):
    """A text of several lines, of which a command has but one."""
    return text.replace(" ; ", "\n")


def listed(values):
    """Values, separated by spaces, or - for none."""
    return " ".join([str(value) for value in values]) if values else "-"


def number_in(text):
    """The number with a text."""
    number = read_number(text)
    if number is None:
        raise InvalidCommand()
    return number


ALONE = {"figures": say_figures, "goals": say_goals, "undo": say_undo}
WITH_TEXT = {
    "house": say_house, "report": say_report, "do": say_do, "left": say_left, "kind": say_kind, "least": say_least,
}


class Desk:
    """A ledger and a report, and the commands that ask for them."""

    def __init__(self):
        self.ledger = Ledger(House(0, "all"))
        self.report = Report()

    def say(self, command):
        """Do a command; return what it answers."""
        if not isinstance(command, str) or "\n" in command or "" in command.split(" "):
            raise InvalidCommand()
        word, space, text = command.partition(" ")
        if text and word in WITH_TEXT:
            answer = WITH_TEXT[word]
            return answer(self, text)
        if word in ALONE and not text:
            answer = ALONE[word]
            return answer(self)
        raise InvalidCommand()
