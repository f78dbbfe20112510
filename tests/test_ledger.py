"""[26], [27]: a book that is led move by move; trials, and several moves or none."""

import unittest

from contrabooks.books import Book, Entry, play
from contrabooks.deciding import least
from contrabooks.errors import InvalidMove, NoEntry, Refused
from contrabooks.houses import House
from contrabooks.ledger import Ledger
from contrabooks.moves import Begin, History, Move, Right, Shut, Take
from tests.short import Told, chances, moves_let, some_house
from tests.values import HOUSE_TEXT, any_values, full_house

HOUSE = House.read(HOUSE_TEXT)
TEXT = "begin 5; take 0 by 2; take 1; shut; take 0; begin 4"


def led(text, house=HOUSE):
    """A ledger in which the moves of a text were done."""
    ledger = Ledger(house)
    for move in History.read(text).moves:
        ledger.do(move)
    return ledger


def no_moves():
    """Values of every kind but moves."""
    return [value for value in any_values() if not isinstance(value, Move)]


class Ledgers(unittest.TestCase):
    def check(self, ledger, text, house=HOUSE):
        """That a ledger stands where the moves of a text lead."""
        history = History.read(text)
        book = play(house, history)
        self.assertEqual((ledger.house, ledger.history, ledger.book), (house, history, book))
        self.assertEqual((str(ledger.history), len(ledger)), (text, len(history)))
        self.assertEqual([ledger[at] for at in range(len(book))], [book[at] for at in range(len(book))])

    def refused(self, at, call, *arguments):
        """The error of a call, which has to be Refused with this number."""
        with self.assertRaises(Refused) as caught:
            call(*arguments)
        self.assertEqual(caught.exception.at, at)
        return caught.exception


class Leading(Ledgers):
    def test_at_first(self):
        for house in (HOUSE, House(0, "all"), full_house(4, "left", "there")):
            self.check(Ledger(house), "", house)
            self.check(Ledger(house=house), "", house)

    def test_do(self):
        ledger = Ledger(full_house(4, "left", "now"))
        done = ""
        for text, made in (("begin 5", (0,)), ("shut", ()), ("take 0 by 2", (1,)), ("take 1", (2,)), ("begin 4", (3,)),
                           ("right 3 to 7", (4, 5)), ("right 5 to 1", (6, 7)), ("shut", ()), ("take 0", (8,))):
            found = ledger.do(move=History.read(text)[0])
            self.assertEqual(found, made)
            self.assertIsInstance(found, tuple)
            done = f"{done}; {text}" if done else text
            self.check(ledger, done, full_house(4, "left", "now"))

    def test_kinds_of_what_is_told(self):
        ledger = led(TEXT)
        self.assertIsInstance(ledger.history, History)
        self.assertIsInstance(ledger.book, Book)
        self.assertIsInstance(ledger.house, House)
        self.assertIsInstance(ledger[0], Entry)
        self.assertEqual(len(ledger), 6)
        self.assertEqual(len(ledger.book), 5)

    def test_refused(self):
        ledger = Ledger(HOUSE)
        self.refused(0, ledger.do, Take(0))
        self.refused(0, ledger.do, Right(0, 1))
        self.check(ledger, "")
        ledger = led(TEXT)
        for move in (Take(9), Take(0), Right(4, 1), Take(1), Take(2, 1), Take(4, 5), Take(5, 1)):
            self.refused(6, ledger.do, move)
            self.check(ledger, TEXT)
        ledger.do(Shut())
        self.refused(7, ledger.do, Take(4, 1))
        ledger.undo()
        ledger.undo()
        self.refused(5, ledger.do, Take(9))

    def test_no_move(self):
        for text in ("", TEXT):
            ledger = led(text)
            for value in no_moves():
                with self.assertRaises(InvalidMove) as caught:
                    ledger.do(value)
                self.assertEqual(caught.exception.word, "move")
                with self.assertRaises(InvalidMove) as caught:
                    ledger += value
                self.assertEqual(caught.exception.word, "move")
                self.check(ledger, text)

    def test_in_place(self):
        ledger = same = Ledger(HOUSE)
        for move in History.read(TEXT).moves:
            ledger += move
            self.assertIs(ledger, same)
        self.check(ledger, TEXT)
        with self.assertRaises(Refused) as caught:
            ledger += Take(0)
        self.assertEqual(caught.exception.at, 6)
        self.assertIs(ledger, same)
        self.check(same, TEXT)
        with self.assertRaises(TypeError):
            ledger + Shut()
        with self.assertRaises(TypeError):
            ledger.history + ledger
        self.check(same, TEXT)

    def test_no_entry(self):
        for text, many in (("", 0), ("shut", 0), (TEXT, 5)):
            ledger = led(text)
            for at in (-1, -many - 1, many, many + 1, 10 ** 30, -(10 ** 30)):
                with self.assertRaises(NoEntry) as caught:
                    ledger[at]
                self.assertEqual(caught.exception.at, at)
            self.check(ledger, text)

    def test_undo(self):
        ledger = led(TEXT)
        parts = TEXT.split("; ")
        for many in reversed(range(6)):
            self.assertIs(ledger.undo(), True)
            self.check(ledger, "; ".join(parts[:many]))
        for _ in range(3):
            self.assertIs(ledger.undo(), False)
            self.check(ledger, "")
        self.assertEqual(ledger.do(Begin(1)), (0,))
        self.assertIs(ledger.undo(), True)
        self.assertIs(ledger.undo(), False)

    def test_undo_of_a_pair_and_of_a_shut(self):
        house = full_house(1, "all", "there")
        ledger = led("begin 5; shut; right 0 to 7; shut", house)
        self.assertIs(ledger.undo(), True)
        self.check(ledger, "begin 5; shut; right 0 to 7", house)
        self.assertIs(ledger.undo(), True)
        self.check(ledger, "begin 5; shut", house)
        self.assertEqual(ledger.do(Right(0, 7)), (1, 2))

    def test_not_iterable(self):
        ledger = led(TEXT)
        for use in (iter, list, tuple, lambda value: ledger[0] in value, lambda value: [*value]):
            for value in (ledger, ledger.trial()):
                with self.assertRaises(TypeError):
                    use(value)

    def test_what_was_told_does_not_change(self):
        ledger = led(TEXT)
        history, book, entry = ledger.history, ledger.book, ledger[0]
        ledger.do(Shut())
        ledger.undo()
        ledger.undo()
        self.assertEqual((str(history), len(book), entry), (TEXT, 5, play(HOUSE, History.read(TEXT))[0]))
        for name in ("house", "history", "book"):
            with self.assertRaises(AttributeError):
                setattr(ledger, name, None)

    def test_two_ledgers(self):
        one, other = Ledger(HOUSE), Ledger(HOUSE)
        one.do(Begin(5))
        self.check(other, "")
        other.do(Begin(7))
        self.check(one, "begin 5")
        self.assertEqual(one, one)
        self.assertNotEqual(one, one.book)

    def test_limits(self):
        house = full_house(4, "left", "now")
        moves = [Begin(10 ** 12)] + [Take(0, 1), Shut()] * 30 + [Take(0)]
        ledger = Ledger(house)
        for move in moves:
            ledger += move
        self.assertEqual((len(ledger), ledger.book), (62, play(house, History(moves))))
        self.assertEqual(ledger[31].amount, 10 ** 12 - 30)

    def test_what_was_returned_may_be_done(self):
        ledger = Ledger(HOUSE)
        history = least(HOUSE, "over")
        ledger.several(history.moves)
        self.assertEqual(ledger.history, history)


class Trials(Ledgers):
    def test_the_ledger_is_as_it_was(self):
        ledger = led(TEXT)
        with ledger.trial() as value:
            self.assertIs(value, ledger)
            value.do(Shut())
            self.check(ledger, TEXT + "; shut")
            value += Begin(3)
            self.check(ledger, TEXT + "; shut; begin 3")
        self.check(ledger, TEXT)
        self.assertIs(ledger.undo(), True)

    def test_left_by_an_error(self):
        class Halt(Exception):
            pass

        for error in (Halt(), KeyboardInterrupt(), Refused(3)):
            ledger = led(TEXT)
            with self.assertRaises(error.__class__) as caught:
                with ledger.trial():
                    ledger.do(Shut())
                    raise error
            self.assertIs(caught.exception, error)
            self.check(ledger, TEXT)

    def test_left_by_a_return(self):
        ledger = led(TEXT)

        def tried():
            with ledger.trial():
                return ledger.do(Begin(1))

        self.assertEqual(tried(), (5,))
        self.check(ledger, TEXT)

    def test_refused_within(self):
        ledger = led(TEXT)
        with ledger.trial():
            ledger.do(Shut())
            self.refused(7, ledger.do, Take(9))
            self.check(ledger, TEXT + "; shut")
        self.check(ledger, TEXT)

    def test_elder_moves_taken_back_within(self):
        ledger = led(TEXT)
        with ledger.trial():
            for _ in range(4):
                ledger.undo()
            ledger.do(Begin(9))
            self.check(ledger, "begin 5; take 0 by 2; begin 9")
        self.check(ledger, TEXT)
        with ledger.trial():
            while ledger.undo():
                pass
            self.check(ledger, "")
        self.check(ledger, TEXT)

    def test_a_trial_within_a_trial(self):
        ledger = led(TEXT)
        with ledger.trial():
            ledger.do(Shut())
            with self.assertRaises(ZeroDivisionError):
                with ledger.trial() as inner:
                    for _ in range(7):
                        self.assertIs(inner.undo(), True)
                    inner.do(Begin(1))
                    self.check(ledger, "begin 1")
                    raise ZeroDivisionError
            self.check(ledger, TEXT + "; shut")
            with ledger.trial():
                ledger.undo()
                ledger.undo()
            self.check(ledger, TEXT + "; shut")
            ledger.undo()
            ledger.undo()
        self.check(ledger, TEXT)

    def test_as_it_was_when_entered(self):
        ledger = led("begin 5")
        trial = ledger.trial()
        ledger.do(Shut())
        with trial:
            ledger.do(Begin(3))
        self.check(ledger, "begin 5; shut")

    def test_new_ones(self):
        ledger = led("begin 5")
        one, other = ledger.trial(), ledger.trial()
        self.assertIsNot(one, other)
        self.check(ledger, "begin 5")
        with one:
            ledger.do(Shut())
            with other:
                ledger.do(Shut())
            self.check(ledger, "begin 5; shut")
        self.check(ledger, "begin 5")

    def test_the_trial_of_one_ledger_leaves_another_one_alone(self):
        one, other = led("begin 5"), led("begin 7")
        with one.trial():
            other.do(Shut())
        self.check(other, "begin 7; shut")


class Within(Ledgers):
    def test_what_it_returns(self):
        ledger = led(TEXT)
        for value in any_values():
            self.assertIs(ledger.within(lambda held, value=value: value), value)
        self.assertIs(ledger.within(work=lambda held: held), ledger)
        self.assertIsNone(ledger.within(lambda held: None))
        self.assertEqual(ledger.within(lambda held: held.do(Begin(1))), (5,))
        self.assertEqual(ledger.within(lambda held: (held.undo(), held.undo(), str(held.history))),
                         (True, True, "begin 5; take 0 by 2; take 1; shut"))
        self.check(ledger, TEXT)

    def test_an_error_goes_on(self):
        ledger = led(TEXT)

        def work(held):
            held.do(Shut())
            held.do(Take(9))

        self.refused(7, ledger.within, work)
        self.check(ledger, TEXT)
        with self.assertRaises(InvalidMove):
            ledger.within(lambda held: held.do(5))
        self.check(ledger, TEXT)

    def test_one_within_another(self):
        ledger = led("begin 5")

        def work(held):
            held.do(Shut())
            told = held.within(lambda inner: (inner.undo(), inner.undo(), len(inner)))
            return told, len(held)

        self.assertEqual(ledger.within(work), ((True, True, 0), 2))
        self.check(ledger, "begin 5")


class Several(Ledgers):
    def test_all(self):
        for make in (list, tuple):
            ledger = Ledger(HOUSE)
            moves = make(History.read(TEXT).moves)
            self.assertEqual(ledger.several(moves=moves), ((0,), (1,), (2,), (), (3,), (4,)))
            self.check(ledger, TEXT)
            self.assertEqual(moves, make(History.read(TEXT).moves))
            self.assertEqual(ledger.several([Shut()]), ((),))
            self.check(ledger, TEXT + "; shut")
        ledger = Ledger(full_house(1, "all", "now"))
        self.assertEqual(ledger.several((Begin(1), Right(0, 2))), ((0,), (1, 2)))

    def test_no_moves(self):
        for text in ("", TEXT):
            ledger = led(text)
            self.assertEqual((ledger.several([]), ledger.several(())), ((), ()))
            self.check(ledger, text)

    def test_refused_at_the_beginning_in_the_middle_at_the_end(self):
        for text in ("", TEXT):
            for at in range(4):
                moves = [Begin(1), Shut(), Begin(2), Shut()]
                moves[at] = Take(99)
                ledger = led(text)
                error = self.refused(at, ledger.several, moves)
                self.assertIsInstance(error.__cause__, Refused)
                self.assertEqual(error.__cause__.at, len(History.read(text)) + at)
                self.check(ledger, text)
                self.assertEqual(moves[at], Take(99))

    def test_the_first_error_counts(self):
        ledger = led("begin 5")
        error = self.refused(1, ledger.several, [Shut(), 5, Take(9), None])
        self.assertEqual((error.__cause__.__class__, error.__cause__.word), (InvalidMove, "move"))
        error = self.refused(1, ledger.several, [Shut(), Take(9), 5])
        self.assertEqual((error.__cause__.__class__, error.__cause__.at), (Refused, 2))
        self.check(ledger, "begin 5")

    def test_any_values_in_it(self):
        ledger = led(TEXT)
        for value in no_moves():
            for at, moves in enumerate(([value], (Shut(), value), [Shut(), Begin(1), value], (Shut(),) * 3 + (value, Shut()))):
                error = self.refused(at, ledger.several, moves)
                self.assertEqual((error.__cause__.__class__, error.__cause__.word), (InvalidMove, "move"))
                self.check(ledger, TEXT)

    def test_undone_one_by_one(self):
        ledger = Ledger(HOUSE)
        ledger.several(History.read(TEXT).moves)
        self.assertIs(ledger.undo(), True)
        self.check(ledger, TEXT.rpartition("; ")[0])

    def test_within_a_trial(self):
        ledger = led("begin 5")
        with ledger.trial():
            ledger.several([Shut(), Begin(3)])
            self.refused(1, ledger.several, [Shut(), Take(9)])
            self.check(ledger, "begin 5; shut; begin 3")
        self.check(ledger, "begin 5")


class AgainstPlay(Ledgers):
    def some_moves(self, chance, house, many):
        """So many moves by chance, which the house lets."""
        state, texts = ((), 0), []
        for _ in range(many):
            text, state = chance.choice(list(moves_let(house, state, Told(state[0])).items()))
            texts.append(text)
        return texts

    def test_all_lead_to_the_same_book(self):
        for chance in chances(40):
            house = some_house(chance)
            texts = self.some_moves(chance, house, 14)
            moves = History.read("; ".join(texts)).moves
            one, other, third = Ledger(house), Ledger(house), Ledger(house)
            made = []
            for many, move in enumerate(moves):
                made.append(one.do(move))
                other += move
                for ledger in (one, other):
                    self.check(ledger, "; ".join(texts[:many + 1]), house)
            self.assertEqual(third.several(moves), tuple(made))
            self.check(third, "; ".join(texts), house)
            self.assertEqual(sum(made, ()), tuple(range(len(third.book))))

    def test_there_and_back(self):
        for chance in chances(40, 100):
            house = some_house(chance)
            texts = self.some_moves(chance, house, 12)
            ledger, done = Ledger(house), []
            for _ in range(40):
                if len(done) < 12 and chance.random() < 0.6:
                    ledger.do(History.read(texts[len(done)])[0])
                    done.append(texts[len(done)])
                elif chance.random() < 0.5:
                    self.assertIs(ledger.undo(), bool(done))
                    done = done[:-1]
                else:
                    self.refused(len(done), ledger.do, Take(99))
                self.check(ledger, "; ".join(done), house)


if __name__ == "__main__":
    unittest.main()
