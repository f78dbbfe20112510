"""Values for tests: some of any kind, and houses that several tests use."""

from contrabooks.books import play
from contrabooks.desk import Desk
from contrabooks.houses import House, Let
from contrabooks.ledger import Ledger
from contrabooks.moves import Begin, History, Right, Shut, Take
from contrabooks.reports import Count, Figures, Report

HOUSE_TEXT = (
    "depth 3\ncheck left\nfirst open part now\nfirst shut whole now\nminus open whole now\nplus open part now"
)
KINDS = ("first", "new", "minus", "plus")
STATES = ("open", "shut")
DEEDS = ("whole", "part", "right")


def deep(value, times):
    """A value inside of so many lists and tuples."""
    for at in range(times):
        value = [value] if at % 2 else (value,)
    return value


def any_values():
    """Values of every kind that may be passed as any value."""
    house = House.read(HOUSE_TEXT)
    book = play(house, History.read("begin 5; take 0 by 2"))
    ledger, desk = Ledger(house), Desk()
    ledger.do(Begin(5))
    desk.say("do begin 5")
    return [
        0, 1, 2, 5, -1, -7, 10 ** 12, -(10 ** 30), 10 ** 30, True, False, None,
        "", " ", "0", "1", "at", "first", "open", "whole", "now", "left", "all", "begin 5", "shut", "depth 3",
        Begin(5), Take(0), Take(0, 2), Right(0, 7), Shut(), History(), History([Shut()]),
        Let("first", "open", "part", "now"), house, House(0, "all"), book, book[0],
        [], (), [0], (1,), [None], ["first"], ("open",), [True, False], [Begin(5), 1], (Shut(),),
        Count("plus", -1, "deed"), Report([Count("plus", -1, "deed")]), Figures([(3, 7)]),
        [Let("first", "open", "part", "now"), None], [Count("plus", -1, "deed"), None], [History()], deep(1, 8), deep(None, 8), deep(Begin(5), 8),
        ledger, desk, ledger.trial(), [ledger], (desk,), (Begin(5), ledger), deep(ledger, 8), "undo", "goals", "least over",
    ]


def full_house(depth, check, place):
    """A house that lets everything, at one place."""
    rows = []
    for kind in KINDS:
        for state in STATES:
            for deed in DEEDS:
                if deed != "right" or kind in ("first", "new"):
                    rows.append(Let(kind, state, deed, place))
    return House(depth, check, rows)
