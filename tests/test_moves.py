"""[5], [6]: moves and histories."""

import unittest

from contrabooks.errors import InvalidMove, InvalidText
from contrabooks.houses import House, Let
from contrabooks.moves import Begin, History, Move, Right, Shut, Take
from tests.values import any_values


def whole(value):
    return isinstance(value, int) and not isinstance(value, bool)


class Moves(unittest.TestCase):
    def wrong(self, word, make, *told, **named):
        with self.assertRaises(InvalidMove) as caught:
            make(*told, **named)
        self.assertEqual(caught.exception.word, word)

    def test_classes(self):
        for kind in (Begin, Take, Right, Shut):
            self.assertEqual(kind.__bases__, (Move,))
        self.assertEqual(Move.__bases__, (object,))
        for move in (Begin(1), Take(0), Take(0, 1), Right(0, 1), Shut()):
            self.assertIsInstance(move, Move)

    def test_listed_methods_are_the_classes_own(self):
        for kind in (Begin, Take, Right, Shut):
            self.assertIn("__eq__", vars(kind))
            self.assertIn("__str__", vars(kind))
        for kind in (Begin, Take, Right):
            self.assertIn("__init__", vars(kind))

    def test_attributes(self):
        self.assertEqual(Begin(5).amount, 5)
        self.assertEqual((Take(3).at, Take(3).amount), (3, None))
        self.assertEqual((Take(3, 2).at, Take(3, 2).amount), (3, 2))
        self.assertEqual((Right(4, 7).at, Right(4, 7).amount), (4, 7))

    def test_by_parameter_names(self):
        self.assertEqual(str(Begin(amount=5)), "begin 5")
        self.assertEqual(str(Take(amount=2, at=0)), "take 0 by 2")
        self.assertEqual(str(Take(at=1)), "take 1")
        self.assertEqual(str(Take(1, amount=None)), "take 1")
        self.assertEqual(str(Right(amount=7, at=0)), "right 0 to 7")

    def test_texts(self):
        self.assertEqual(str(Begin(5)), "begin 5")
        self.assertEqual(str(Take(0)), "take 0")
        self.assertEqual(str(Take(0, 2)), "take 0 by 2")
        self.assertEqual(str(Right(0, 7)), "right 0 to 7")
        self.assertEqual(str(Shut()), "shut")
        self.assertEqual(str(Begin(10 ** 12)), "begin 1000000000000")
        self.assertEqual(str(Take(39, 10 ** 12)), "take 39 by 1000000000000")

    def test_least_values(self):
        self.assertEqual(Begin(1).amount, 1)
        self.assertEqual(Take(0, 1).at, 0)
        self.assertEqual(Right(0, 1).amount, 1)

    def test_any_amount_of_begin(self):
        for value in any_values():
            if whole(value) and value >= 1:
                self.assertEqual(Begin(value).amount, value)
            else:
                self.wrong("amount", Begin, value)

    def test_any_values_of_take(self):
        for value in any_values():
            if whole(value) and value >= 0:
                self.assertEqual(Take(value, 3).at, value)
            else:
                self.wrong("at", Take, value)
                self.wrong("at", Take, value, 3)
            if value is None or whole(value) and value >= 1:
                self.assertEqual(Take(3, value).amount, value)
            else:
                self.wrong("amount", Take, 3, value)

    def test_any_values_of_right(self):
        for value in any_values():
            if whole(value) and value >= 0:
                self.assertEqual(Right(value, 3).at, value)
            else:
                self.wrong("at", Right, value, 3)
            if whole(value) and value >= 1:
                self.assertEqual(Right(3, value).amount, value)
            else:
                self.wrong("amount", Right, 3, value)

    def test_bools_are_no_integers(self):
        self.wrong("amount", Begin, True)
        self.wrong("at", Take, True)
        self.wrong("at", Take, False)
        self.wrong("amount", Take, 0, True)
        self.wrong("amount", Take, 0, False)
        self.wrong("at", Right, False, 1)
        self.wrong("amount", Right, 0, True)

    def test_none(self):
        self.assertIsNone(Take(0, None).amount)
        self.wrong("amount", Begin, None)
        self.wrong("at", Take, None)
        self.wrong("amount", Right, 0, None)

    def test_nothing_is_no_amount(self):
        self.wrong("amount", Begin, 0)
        self.wrong("amount", Take, 0, 0)
        self.wrong("amount", Right, 0, 0)
        self.wrong("amount", Take, 0, -1)

    def test_first_wrong_argument_is_told(self):
        self.wrong("at", Take, -1, 0)
        self.wrong("at", Right, -1, 0)
        self.wrong("at", Right, "0", "1")
        self.wrong("at", Take, amount=0, at=True)
        self.wrong("at", Right, amount=None, at=None)

    def test_equal_if_texts_are(self):
        told = ["begin 5", "begin 6", "take 0", "take 1", "take 0 by 5", "take 0 by 6", "right 0 to 5", "right 1 to 5",
                "right 0 to 6", "shut"]
        for text in told:
            for other in told:
                move, further = History.read(text)[0], History.read(other)[0]
                self.assertIs(move == further, text == other)
                self.assertIs(move != further, text != other)

    def test_equal_to_nothing_of_another_class(self):
        for move in (Begin(5), Take(0), Take(0, 2), Right(0, 7), Shut()):
            for value in any_values():
                if not isinstance(value, Move):
                    self.assertIs(move == value, False)
                    self.assertIs(value == move, False)
            self.assertIs(move == str(move), False)

    def test_not_iterable(self):
        for move in (Begin(5), Take(0), Take(0, 2), Right(0, 7), Shut()):
            with self.assertRaises(TypeError):
                iter(move)


class Histories(unittest.TestCase):
    TEXT = "begin 5; take 0 by 2; take 1; shut; right 0 to 7; begin 4"

    def moves(self):
        return (Begin(5), Take(0, 2), Take(1), Shut(), Right(0, 7), Begin(4))

    def test_moves_are_a_tuple(self):
        self.assertEqual(History().moves, ())
        for told in (self.moves(), list(self.moves())):
            history = History(told)
            self.assertIsInstance(history.moves, tuple)
            self.assertEqual(history.moves, self.moves())
        self.assertEqual(History(moves=[Shut()]).moves, (Shut(),))
        self.assertEqual(History([]).moves, ())

    def test_moves_themselves_are_kept(self):
        told = [Begin(1), Shut()]
        self.assertIs(History(told).moves[0], told[0])
        self.assertIs(History(told)[1], told[1])

    def test_later_changes_of_the_argument(self):
        told = [Begin(1)]
        history = History(told)
        told.append(Shut())
        self.assertEqual(str(history), "begin 1")
        self.assertEqual(len(told), 2)

    def test_any_value(self):
        for value in any_values():
            right = isinstance(value, (list, tuple)) and all(isinstance(item, Move) for item in value)
            if right:
                self.assertEqual(History(value).moves, tuple(value))
            else:
                with self.assertRaises(InvalidMove) as caught:
                    History(value)
                self.assertEqual(caught.exception.word, "moves")

    def test_no_sequence_of_moves(self):
        row = Let("first", "open", "part", "now")
        for value in ("shut", "", Shut(), History([Shut()]), None, [Shut(), "shut"], [None, Shut()], [[Shut()]],
                      (Shut(), History()), [row], House(0, "all", [row]), 0, [True]):
            with self.assertRaises(InvalidMove) as caught:
                History(value)
            self.assertEqual(caught.exception.word, "moves")

    def test_len(self):
        self.assertEqual(len(History()), 0)
        self.assertEqual(len(History(self.moves())), 6)

    def test_index(self):
        history = History(self.moves())
        for at, move in enumerate(self.moves()):
            self.assertEqual(history[at], move)
            self.assertIsInstance(history[at], Move)

    def test_slices(self):
        history = History(self.moves())
        ends = (None, -9, -7, -6, -5, -1, 0, 1, 3, 5, 6, 7, 20)
        for first in ends:
            for last in ends:
                for step in (None, 1, 2, 3, 7, -1, -2, -7):
                    found = history[first:last:step]
                    self.assertIsInstance(found, History)
                    self.assertEqual(found.moves, self.moves()[first:last:step])
        self.assertEqual(str(history[:2]), "begin 5; take 0 by 2")
        self.assertEqual(history[:], history)
        self.assertEqual(History()[::-1], History())
        self.assertEqual(len(history), 6)

    def test_add(self):
        left, right = History([Begin(1), Shut()]), History([Shut(), Take(0)])
        self.assertEqual(str(left + right), "begin 1; shut; shut; take 0")
        self.assertEqual(str(right + left), "shut; take 0; begin 1; shut")
        self.assertEqual(left + History(), left)
        self.assertEqual(History() + left, left)
        self.assertEqual(str(left + Take(0, 3)), "begin 1; shut; take 0 by 3")
        for move in (Begin(5), Take(0), Right(0, 7), Shut()):
            self.assertEqual((left + move).moves, left.moves + (move,))
            self.assertIsInstance(left + move, History)
        self.assertEqual((str(left), str(right)), ("begin 1; shut", "shut; take 0"))

    def test_add_in_place_makes_another_one(self):
        first = history = History([Begin(1)])
        history += Shut()
        history += History([Take(0)])
        self.assertEqual(str(history), "begin 1; shut; take 0")
        self.assertEqual(str(first), "begin 1")

    def test_add_anything_else(self):
        history = History([Begin(1)])
        for value in any_values() + [[Shut()], (Shut(),), "shut"]:
            if not isinstance(value, (Move, History)):
                with self.assertRaises(TypeError):
                    history + value
                with self.assertRaises(TypeError):
                    value + history
                with self.assertRaises(TypeError):
                    history += value
        with self.assertRaises(TypeError):
            Shut() + history
        with self.assertRaises(TypeError):
            Shut() + Shut()

    def test_text(self):
        self.assertEqual(str(History()), "")
        self.assertEqual(str(History([Shut()])), "shut")
        self.assertEqual(str(History(self.moves())), self.TEXT)

    def test_read(self):
        self.assertEqual(History.read("").moves, ())
        self.assertEqual(History.read(self.TEXT).moves, self.moves())
        self.assertIsInstance(History.read("shut"), History)
        self.assertEqual(History.read(text="shut; shut").moves, (Shut(), Shut()))
        history = History.read("take 0; take 10 by 1; right 39 to 1000000000000")
        self.assertEqual([(move.at, move.amount) for move in history.moves], [(0, None), (10, 1), (39, 10 ** 12)])
        self.assertEqual(History.read("take 9999999999999").moves[0].at, 9999999999999)

    def test_read_wrong_moves(self):
        wrong = [
            "", " ", "x", "begin", "begin ", " begin 5", "begin 5 ", "begin  5", "begin 0", "begin 05", "begin -5",
            "begin +5", "begin 5.", "begin five", "begin 5 6", "begin 1_0", "begin 5\n", "begin\n5", "Begin 5", "begin5",
            "begin 00", "begin none", "begin 5 by 2", "begin 5 to 2", "begin by 2",
            "take", "take ", "take 00", "take 01", "take -1", "take x", "take 0 by", "take 0 by ", "take 0 by 0",
            "take 0 by 02", "take 0 by -2", "take 0 by x", "take 0 by None", "take 0 by 2 ", "take 0  by 2",
            "take 0 by  2", "take 0 2", "take 0 to 2", "take by 2", "take 0 by 2 by 2", "take 0 by 2 3", "Take 0",
            "take x by 2", "take 0 By 2",
            "right", "right 0", "right 0 to", "right 0 to 0", "right 0 to 07", "right 0 to x", "right x to 7",
            "right 00 to 7", "right 0 by 7", "right 0 7", "right to 7", "right 0 to 7 ", "right 0 to 7 8",
            "right -1 to 7", "right 0 to -7", "right 0 to 7 to 7",
            "shut ", " shut", "shut 0", "shut 1", "Shut", "shutshut", "shut shut", "shut\n", "shut;", ";", ";shut",
            "shut;shut", "by", "to 5", "0", "5",
        ]
        for part in wrong:
            for before in (0, 1, 3):
                text = "; ".join(["begin 1"] * before + [part, "shut"])
                with self.assertRaises(InvalidText, msg=repr(text)) as caught:
                    History.read(text)
                self.assertEqual(caught.exception.at, before, repr(text))
            if part:
                with self.assertRaises(InvalidText, msg=repr(part)) as caught:
                    History.read(part)
                self.assertEqual(caught.exception.at, 0)

    def test_read_tells_the_first_wrong_part(self):
        for text, at in (("begin 1; x; y", 1), ("; ", 0), ("shut; ", 1), ("; shut", 0), ("shut; ; shut", 1),
                         ("shut;  shut", 1), ("shut ; shut", 0), ("shut; shut; shut; begin 0; begin", 3),
                         ("shut; shut;", 1), ("shut;\nshut", 0), ("shut\nshut", 0)):
            with self.assertRaises(InvalidText, msg=repr(text)) as caught:
                History.read(text)
            self.assertEqual(caught.exception.at, at, repr(text))

    def test_read_back(self):
        for text in ("", "shut", self.TEXT, "begin 1000000000000; take 0 by 999999999999"):
            self.assertEqual(str(History.read(text)), text)

    def test_equal(self):
        self.assertTrue(History.read(self.TEXT) == History(self.moves()))
        self.assertIs(History() == History([]), True)
        self.assertIs(History([Shut()]) == History([Shut(), Shut()]), False)
        self.assertIs(History([Begin(1), Shut()]) == History([Shut(), Begin(1)]), False)
        self.assertIs(History([Take(0)]) == History([Take(0, 1)]), False)
        self.assertIs(History([Take(0)]) != History([Take(1)]), True)

    def test_equal_to_nothing_of_another_class(self):
        for history in (History(), History([Shut()])):
            for value in any_values() + [history.moves, list(history.moves), str(history), House(0, "all")]:
                if not isinstance(value, History):
                    self.assertIs(history == value, False)
                    self.assertIs(value == history, False)

    def test_not_iterable(self):
        for history in (History(), History(self.moves())):
            with self.assertRaises(TypeError):
                iter(history)
            with self.assertRaises(TypeError):
                list(history)
            with self.assertRaises(TypeError):
                Shut() in history

    def test_beyond_the_limits(self):
        history = History([Begin(10 ** 15)] * 100)
        self.assertEqual(History.read(str(history)), history)
        self.assertEqual(len(history + history), 200)


if __name__ == "__main__":
    unittest.main()
