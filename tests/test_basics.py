"""[1], [2], [3]: what holds for all modules; and what the interface lists."""

import importlib
import inspect
import unittest

import contrabooks
from contrabooks.basics import is_amount, is_integer, is_number, read_number
from contrabooks.books import play
from contrabooks.errors import BookError, InvalidHouse, InvalidMove, InvalidReport, InvalidRow
from contrabooks.houses import House, Let
from contrabooks.moves import Begin, History, Right, Shut, Take
from contrabooks.reports import Count, Report
from tests.values import HOUSE_TEXT, any_values, full_house

# Functions and classes of the interface: their parameters, and the methods that stand in the class itself.
FUNCTIONS = {
    "books": {"play": "house history"},
    "deciding": {"met": "house history report=None", "happens": "house goal report=None",
                 "least": "house goal report=None", "goals": "house report=None"},
    "papers": {"paper": "house goal report=None", "paper_holds": "house goal value report=None"},
    "comparing": {"alike": "house r s", "parting": "house r s", "needed": "house report", "same": "p q", "apart": "p q"},
    "repairs": {"repairs": "house goal report=None"},
    "telling": {"printed": "house history", "ways": "house lines"},
}
CLASSES = {
    "moves": {
        "Begin": ("amount", {"__eq__": "other", "__str__": ""}),
        "Take": ("at amount=None", {"__eq__": "other", "__str__": ""}),
        "Right": ("at amount", {"__eq__": "other", "__str__": ""}),
        "Shut": ("", {"__eq__": "other", "__str__": ""}),
        "History": ("moves=()", {"read": "text", "__len__": "", "__getitem__": "at", "__add__": "other",
                                 "__eq__": "other", "__str__": ""}),
    },
    "houses": {
        "Let": ("kind state deed place", {"__eq__": "other", "__str__": ""}),
        "House": ("depth check rows=()", {
            "placed": "kind state deed", "without": "numbers", "read": "text", "__len__": "", "__getitem__": "at",
            "__and__": "other", "__le__": "other", "__ge__": "other", "__eq__": "other", "__str__": ""}),
    },
    "books": {
        "Entry": (None, {"__eq__": "other"}),
        "Book": (None, {"left_of": "at", "depth_of": "at", "kind_of": "at", "top_of": "at", "deed_of": "at",
                        "__len__": "", "__getitem__": "at", "__eq__": "other"}),
    },
    "reports": {
        "Count": ("kind weight whose", {"__eq__": "other", "__str__": ""}),
        "Report": ("rows=()", {"weight_of": "kind", "month_of": "kind", "read": "text", "__call__": "book",
                               "__invert__": "", "__eq__": "other", "__str__": ""}),
        "Figures": ("pairs=()", {
            "months": None, "total": None, "__getitem__": "at", "__add__": "other", "__sub__": "other", "__neg__": "",
            "__mul__": "other", "__rmul__": "other", "__bool__": "", "__eq__": "other", "__str__": ""}),
    },
    "ledger": {
        "Ledger": ("house", {
            "house": None, "history": None, "book": None, "do": "move", "undo": "", "trial": "", "within": "work",
            "several": "moves", "__len__": "", "__getitem__": "at", "__iadd__": "other"}),
    },
    "desk": {
        "Desk": ("", {"say": "command"}),
    },
}


def parameters(thing):
    """The parameters of a function, as words."""
    return " ".join(str(told) for told in inspect.signature(thing).parameters.values())


class Interface(unittest.TestCase):
    def test_functions(self):
        for name, functions in FUNCTIONS.items():
            module = importlib.import_module("contrabooks." + name)
            for function, expected in functions.items():
                self.assertEqual(parameters(getattr(module, function)), expected)
                self.assertEqual(getattr(module, function).__module__, module.__name__)

    def test_classes(self):
        for name, classes in CLASSES.items():
            module = importlib.import_module("contrabooks." + name)
            for word, (expected, methods) in classes.items():
                self.assertEqual(getattr(module, word).__module__, module.__name__)
                if expected is not None:
                    self.assertEqual(parameters(getattr(module, word)), expected, word)
                for method, told in methods.items():
                    self.assertIn(method, vars(getattr(module, word)), word)
                    if told is None:
                        self.assertIsInstance(vars(getattr(module, word))[method], property)
                        continue
                    found = parameters(getattr(getattr(module, word), method))
                    self.assertEqual(found.replace("self", "").strip(), told, (word, method))

    def test_package_is_empty_but_for_a_docstring(self):
        self.assertTrue(contrabooks.__doc__)
        with open(contrabooks.__file__, encoding="utf-8") as file:
            self.assertEqual(file.read().strip().strip('"'), contrabooks.__doc__)


class Basics(unittest.TestCase):
    def test_numbers_and_amounts(self):
        for value in any_values():
            whole = isinstance(value, int) and value is not True and value is not False
            self.assertIs(is_integer(value), whole)
            self.assertIs(is_number(value), whole and value >= 0)
            self.assertIs(is_amount(value), whole and value >= 1)

    def test_number_texts(self):
        for number in (0, 1, 7, 10, 100, 9999999999999):
            self.assertEqual(read_number(str(number)), number)
        for text in ("", " ", "00", "01", "-1", "+1", "1 ", " 1", "1.0", "1_0", "x", "1x", "0x1", "1e3", "1\n",
                     "\u0663", "\u00b2"):
            self.assertIsNone(read_number(text))

    def test_any_value_raises_nothing_but_what_is_described(self):
        makers = (
            (InvalidMove, lambda value: Begin(value)), (InvalidMove, lambda value: Take(value)),
            (InvalidMove, lambda value: Take(value, value)), (InvalidMove, lambda value: Right(value, value)),
            (InvalidMove, lambda value: History(value)), (InvalidRow, lambda value: Let(value, value, value, value)),
            (InvalidHouse, lambda value: House(value, value, value)), (InvalidHouse, lambda value: House(1, value)),
            (InvalidHouse, lambda value: House(1, "all", value)), (InvalidReport, lambda value: Report(value)),
            (InvalidRow, lambda value: Count(value, value, value)), (InvalidRow, lambda value: Count("new", value, "own")),
        )
        for value in any_values():
            for error, make in makers:
                try:
                    make(value)
                except BookError as caught:
                    self.assertEqual((caught.__class__, list(vars(caught))), (error, ["word"]))

    def test_same_call_same_result(self):
        history = History.read("begin 5; take 0 by 2; take 1; shut; take 0; begin 4")
        house = House.read(HOUSE_TEXT)
        first = play(house, history)
        for text in ("begin 1", "shut; begin 2", ""):
            play(full_house(4, "all", "there"), History.read(text))
        self.assertEqual(play(house, history), first)
        self.assertEqual([first.left_of(at) for at in range(5)], [0, 0, 2, 5, 4])
        self.assertEqual(History.read(str(history)), history)
        self.assertEqual(house & house, house & house)

    def test_sequences_that_are_kept_are_tuples(self):
        house = House(1, "all", [Let("first", "open", "whole", "now")])
        book = play(house, History([Begin(1), Take(0), Shut()]))
        for value in (house.rows, (house & house).rows, house.without([]).rows, book.entries,
                      History([Shut()]).moves, History.read("shut").moves, History([Shut()])[:].moves,
                      (History([Shut()]) + Shut()).moves):
            self.assertIsInstance(value, tuple)

    def test_what_is_told_is_true_or_false(self):
        house = House(1, "all")
        for value in (Begin(1) == Begin(1), History() == History(), house <= house, house >= house, house == house,
                      Begin(1) == 1, house == 1, play(house, History()) == play(house, History())):
            self.assertIsInstance(value, bool)

    def test_limits(self):
        moves = [Begin(10 ** 12)] + [Take(0, 1), Shut()] * 19 + [Take(0)]
        book = play(full_house(4, "left", "now"), History(moves))
        self.assertEqual((len(moves), book[20].amount, book.month, book.left_of(0)), (40, 10 ** 12 - 19, 19, 0))
        rows = full_house(4, "left", "now").rows
        house = House(4, "left", rows + rows[:4])
        self.assertEqual(len(house), 24)
        self.assertEqual(House.read(str(house)), house)
        self.assertEqual(play(house, History(moves)), book)


if __name__ == "__main__":
    unittest.main()
