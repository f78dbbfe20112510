"""[28], [29]: commands, what they answer, and which are refused, in which order."""

import unittest

from contrabooks.books import play
from contrabooks.deciding import GOALS, goals, happens, least, met
from contrabooks.desk import Desk
from contrabooks.errors import BookError, InvalidCommand, InvalidText, NoEntry, Refused
from contrabooks.houses import House
from contrabooks.ledger import Ledger
from contrabooks.moves import Begin, History, Shut
from contrabooks.reports import Report
from tests.short import Told, chances, moves_let, report_of, some_house, some_report
from tests.values import HOUSE_TEXT, any_values, full_house

HOUSE = House.read(HOUSE_TEXT)
LATE = Report.read("first 1 own\nminus 1 deed\nplus 1 deed\nnew 1 deed")
MOVES = "begin 5; take 0 by 2; take 1; shut; take 0; begin 4"
BARE = ("figures", "goals", "undo")
FURTHER = ("house", "report", "do", "left", "kind", "least")


def in_one_line(thing):
    return str(thing).replace("\n", " ; ")


def desk_of(house, report, text=""):
    """A desk with a house and a report, at which the moves of a text were done."""
    desk = Desk()
    desk.say("house " + in_one_line(house))
    desk.say("report " + in_one_line(report))
    for part in text.split("; ") if text else ():
        desk.say("do " + part)
    return desk


def state_of(desk):
    """What there is to see of a desk."""
    return desk.ledger.house, desk.ledger.history, desk.ledger.book, desk.report


class Desks(unittest.TestCase):
    def answers(self, desk, told):
        for command, answer in told:
            self.assertEqual(desk.say(command), answer, command)

    def wrong(self, desk, command, error=InvalidCommand, at=None):
        """That a command raises an error, and that nothing changes."""
        before, ledger, report = state_of(desk), desk.ledger, desk.report
        with self.assertRaises(error, msg=repr(command)) as caught:
            desk.say(command)
        self.assertIs(caught.exception.__class__, error, command)
        self.assertEqual(vars(caught.exception), {} if at is None else {"at": at}, command)
        self.assertEqual(state_of(desk), before, command)
        self.assertIs(desk.ledger, ledger)
        self.assertIs(desk.report, report)


class Commands(Desks):
    def test_at_first(self):
        desk = Desk()
        self.assertIsInstance(desk.ledger, Ledger)
        self.assertEqual(state_of(desk), (House(0, "all"), History(), play(House(0, "all"), History()), Report()))
        self.answers(desk, (("figures", "-"), ("goals", "wrong"), ("least over", "never"), ("least wrong", "begin 1"),
                            ("undo", "nothing"), ("do shut", "-"), ("do begin 5", "0"), ("left 0", "5"),
                            ("kind 0", "first"), ("figures", "-"), ("undo", "undone"), ("undo", "undone"),
                            ("undo", "nothing")))
        self.wrong(desk, "left 0", NoEntry, 0)
        self.wrong(desk, "do take 0", Refused, 0)

    def test_house(self):
        desk = desk_of(HOUSE, LATE, MOVES)
        ledger = desk.ledger
        self.assertEqual(desk.say("house depth 1 ; check all ; first open part now"), "1")
        self.assertIsNot(desk.ledger, ledger)
        self.assertEqual(state_of(desk)[:2], (House.read("depth 1\ncheck all\nfirst open part now"), History()))
        self.assertEqual(desk.report, LATE)
        self.assertEqual(len(ledger), 6)
        self.assertEqual(desk.say("house depth 4 ; check left"), "0")
        self.assertEqual(desk.ledger.house, House(4, "left"))
        self.assertEqual(desk.say("house " + in_one_line(full_house(4, "all", "now"))), "20")
        # The same house once more: its ledger is a new one, too.
        desk.say("do begin 5")
        self.answers(desk, (("house " + in_one_line(full_house(4, "all", "now")), "20"), ("undo", "nothing")))

    def test_report(self):
        desk = desk_of(HOUSE, LATE, MOVES)
        self.assertEqual(desk.say("figures"), str(LATE(desk.ledger.book)))
        self.assertEqual(desk.say("report minus -1 own"), "1")
        self.assertEqual(desk.report, Report.read("minus -1 own"))
        self.assertEqual((str(desk.ledger.history), desk.say("figures")), (MOVES, "0: 2, 1: 5"))
        self.assertEqual(desk.say("report new 0 top ; first 1 own ; plus -1 deed ; minus 1 target"), "4")

    def test_do(self):
        desk = desk_of(full_house(4, "left", "now"), LATE)
        self.answers(desk, (("do begin 5", "0"), ("do take 0 by 2", "1"), ("do take 1", "2"), ("do shut", "-"),
                            ("do begin 4", "3"), ("do right 3 to 1000000000000", "4 5"), ("do take 0", "6")))
        self.assertEqual(str(desk.ledger.history), "begin 5; take 0 by 2; take 1; shut; begin 4; "
                                                   "right 3 to 1000000000000; take 0")

    def test_left_and_kind(self):
        desk = desk_of(full_house(4, "left", "now"), LATE, "begin 5; take 0 by 2; take 1 by 1")
        self.answers(desk, (("left 0", "4"), ("left 1", "1"), ("left 2", "1"), ("kind 0", "first"), ("kind 1", "minus"),
                            ("kind 2", "plus"), ("do begin 3", "3"), ("do right 3 to 9", "4 5"), ("left 3", "0"),
                            ("left 4", "3"), ("left 5", "9"), ("kind 4", "minus"), ("kind 5", "new")))

    def test_what_is_left_may_be_less_than_nothing(self):
        desk = desk_of(HOUSE, LATE, "begin 1; take 0 by 1; take 1; take 0 by 1; take 2 by 1")
        self.assertIn("-1", [desk.say(f"left {at}") for at in range(5)])

    def test_the_last_entry_and_the_first_one_that_is_none(self):
        desk = desk_of(HOUSE, LATE, MOVES)
        self.answers(desk, (("left 4", "4"), ("kind 4", "first"), ("kind 3", "minus"), ("left 3", "5")))
        for word in ("left", "kind"):
            for at in (5, 6, 10, 9999999999999):
                self.wrong(desk, f"{word} {at}", NoEntry, at)
        desk.say("undo")
        self.wrong(desk, "left 4", NoEntry, 4)

    def test_figures(self):
        desk = desk_of(HOUSE, LATE, MOVES)
        self.answers(desk, (("figures", "1: 4"), ("report first 1 own ; minus 1 own ; plus 1 own", "3"),
                            ("figures", "0: 5, 1: -1"), ("report new 1 own", "1"), ("figures", "-"),
                            ("report first 0 own", "1"), ("figures", "-")))

    def test_goals(self):
        desk = desk_of(HOUSE, LATE)
        self.answers(desk, (("goals", "changed over"), ("report first 1 own ; minus 1 own ; plus 1 own ; new 1 own", "4"),
                            ("goals", "over"), ("house depth 2 ; check left", "0"), ("goals", "-"),
                            ("report first -1 own", "1"), ("goals", "wrong")))

    def test_least(self):
        desk = desk_of(HOUSE, LATE)
        for goal in GOALS:
            found = least(HOUSE, goal, LATE)
            self.assertEqual(desk.say("least " + goal), "never" if found is None else str(found))
        history = History.read(desk.say("least over"))
        self.assertEqual((len(history), met(HOUSE, history)), (5, ("over",)))
        self.assertEqual((desk.say("least moved"), desk.say("least wrong")), ("never", "never"))
        self.assertEqual(desk.ledger.history, History())

    def test_undo(self):
        desk = desk_of(HOUSE, LATE, MOVES)
        for many in reversed(range(6)):
            self.assertEqual(desk.say("undo"), "undone")
            self.assertEqual(desk.ledger.history, History.read(MOVES)[:many])
        self.answers(desk, (("undo", "nothing"), ("undo", "nothing"), ("do begin 1", "0"), ("undo", "undone")))

    def test_the_ledger_is_the_one_that_is_seen(self):
        desk = Desk()
        desk.ledger.do(Begin(5))
        self.answers(desk, (("left 0", "5"), ("do begin 7", "1"), ("undo", "undone")))
        self.assertEqual(desk.ledger.history, History([Begin(5)]))
        with desk.ledger.trial():
            desk.say("do shut")
            desk.say("do begin 1")
        self.assertEqual(desk.ledger.history, History([Begin(5)]))
        desk.ledger += Shut()
        self.assertEqual(str(desk.ledger.history), "begin 5; shut")

    def test_two_desks(self):
        one, other = Desk(), Desk()
        one.say("do begin 5")
        one.say("report first 1 own")
        self.assertEqual(state_of(other), state_of(Desk()))
        self.assertEqual(one, one)
        self.assertNotEqual(one, one.ledger)

    def test_by_parameter_name_and_not_iterable(self):
        desk = Desk()
        self.assertEqual(desk.say(command="do begin 5"), "0")
        for use in (iter, list, tuple, lambda value: "do" in value):
            with self.assertRaises(TypeError):
                use(desk)

    def test_examples_of_the_document(self):
        desk = Desk()
        self.answers(desk, (("house depth 1 ; check left ; first shut part there", "1"),
                            ("report first 1 own ; minus 1 target", "2"), ("do begin 7", "0"), ("do shut", "-"),
                            ("do take 0 by 3", "1"), ("figures", "0: 4"), ("left 0", "4"), ("goals", "changed moved")))

    def test_limits(self):
        rows = full_house(4, "left", "now").rows
        house = House(4, "left", rows + rows[:4])
        desk = desk_of(house, LATE)
        self.assertEqual((len(desk.ledger.house), desk.say("goals")), (24, "changed over twice"))
        desk.say("do begin 1000000000000")
        for at in range(1, 45):
            self.assertEqual(desk.say("do take 0 by 1"), str(at))
        self.assertEqual(desk.say("left 0"), str(10 ** 12 - 44))


class Wrong(Desks):
    def setUp(self):
        self.desks = [Desk(), desk_of(HOUSE, LATE, MOVES)]

    def all_wrong(self, commands, error=InvalidCommand, at=None):
        for desk in self.desks:
            for command in commands:
                self.wrong(desk, command, error, at)

    def test_any_value(self):
        said = ("undo", "goals", "least over")
        self.all_wrong([value for value in any_values() if value not in said] + [["undo"], ("undo",), b"undo", "depth 3"])

    def test_unknown_words(self):
        self.all_wrong(("x", "Undo", "UNDO", "und", "undoo", "houses depth 0", "begin 5", "take 0", "shut", "ledger",
                        "say undo", "met over", "-", ";", "; undo", "undo;", "0", "left0", "do-begin 5"))

    def test_empty_words_and_newlines(self):
        self.all_wrong(("", " ", "  ", " undo", "undo ", "do  begin 5", "do begin  5", "do begin 5 ", " do begin 5",
                        "left  0", "left 0 ", "house ", "report ", "do ", "left ", "kind ", "least ", "least  over",
                        "house depth 0 ;  check all", "house depth 0 ; check all ", "report first 1 own ; ",
                        "report  first 1 own", "\n", "undo\n", "\nundo", "undo\nundo", "do begin 5\n", "left\n0",
                        "house depth 0\ncheck all", "report first 1 own\nminus 1 own", "do begin 5\ndo shut"))

    def test_words_too_many_or_too_few(self):
        self.all_wrong(FURTHER)
        self.all_wrong(word + more for word in BARE for more in (" 0", " " + word, " ;", " -", " over", " undo 1"))
        self.all_wrong(("left 0 0", "left 0 ;", "kind 0 1", "least over over", "least over ;", "do shut 1", "do shut ;",
                        "do begin 5 6", "do take", "do take 0 by", "do take 0 by 1 2", "do right 0", "do right 0 to"))

    def test_no_text_of_one_move(self):
        self.all_wrong("do " + text for text in (
            "begin", "begin 0", "begin 05", "begin -5", "begin +5", "begin x", "begin 5;", "begin 5; shut",
            "begin 5 ; shut", "shut; shut", "take 00", "take -1", "take 0 by 0", "take 0 by 01", "take 0 to 1",
            "right 0 by 1", "right 0 to 0", "Begin 5", "Shut", "shut;", "do shut", "undo", "0", "begin 5.0", "begin 1_0",
        ))

    def test_no_numbers(self):
        self.all_wrong(f"{word} {text}" for word in ("left", "kind") for text in (
            "00", "01", "007", "-0", "-1", "+1", "+0", "x", "0x0", "1.", "1e0", "1_0", "first", "0;", "0,", ";", "-"))

    def test_no_goals(self):
        self.all_wrong("least " + text for text in (
            "Over", "overs", "ove", "goal", "0", "-", "over,moved", "over moved", "never", "over;", "wrong wrong"))

    def test_texts_of_houses(self):
        for text, at in (
            ("x", 0), ("depth 5", 0), ("depth 5 ; check all", 0), ("depth 05 ; check all", 0), ("check all", 0),
            ("depth 1", 1), ("depth 1 ; check", 1), ("depth 1 ; check none ; x", 1), ("depth 1 ; check all ; x", 2),
            ("depth 1 ; check all ; first open part now ; first open", 3), ("depth 1 ; check all ; minus open right now", 2),
            ("depth 1; check all", 0), ("depth 1 ;check all", 0), (";", 0), ("; depth 1 ; check all", 0),
            ("depth 1 ; ; check all", 1), ("depth 1 ; check all ;", 1), ("depth 1 ; check all ; ; x", 2),
        ):
            self.all_wrong(("house " + text,), InvalidText, at)

    def test_texts_of_reports(self):
        for text, at in (
            ("x", 0), ("first", 0), ("first 1", 0), ("first 2 own", 0), ("first +1 own", 0), ("first 01 own", 0),
            ("first 1 own ; first 1 own", 1), ("first 1 own ; minus 1 own ; first 0 top", 2), ("first 1 own; minus 1 own", 0),
            ("first 1 own ; x", 1), (";", 0), ("first 1 own ;", 0), ("first 1 own ; ; minus 1 own", 1), ("first 1 whose", 0),
        ):
            self.all_wrong(("report " + text,), InvalidText, at)

    def test_refused(self):
        for desk, many in zip(self.desks, (0, 6)):
            for text in ("take 9", "take 9 by 1", "right 9 to 1", "take 0 by 9999999999999", "right 0 to 1", "take 0"):
                self.wrong(desk, "do " + text, Refused, many)
        desk = self.desks[1]
        desk.say("undo")
        self.wrong(desk, "do take 9", Refused, 5)
        self.assertEqual(desk.say("do begin 1"), "4")

    def test_the_desk_goes_on(self):
        desk = self.desks[1]
        for command in (None, "", "do take 9", "house x", "report x", "left 9", "do x"):
            with self.assertRaises((BookError, IndexError)):
                desk.say(command)
        self.answers(desk, (("left 4", "4"), ("do begin 9", "5"), ("figures", "1: 13"), ("undo", "undone")))


class AgainstTheOthers(Desks):
    def test_what_the_others_tell(self):
        for chance in chances(40):
            house, rows = some_house(chance), some_report(chance)
            report = report_of(rows)
            if not rows:
                continue
            desk, ledger = desk_of(house, report), Ledger(house)
            self.assertEqual(desk.say("goals"), " ".join(goals(house, report)) or "-")
            for goal in GOALS:
                self.assertEqual(desk.say("least " + goal) == "never", not happens(house, goal, report))
            state = ((), 0)
            for many in range(12):
                text, state = chance.choice(list(moves_let(house, state, Told(state[0])).items()))
                made = ledger.do(History.read(text)[0])
                self.assertEqual(desk.say("do " + text), " ".join(map(str, made)) or "-")
                self.assertEqual(state_of(desk), (house, ledger.history, play(house, ledger.history), report))
                told = Told(state[0])
                figures = ", ".join(f"{month}: {amount}" for month, amount in sorted(told.figures(rows).items()))
                self.assertEqual(desk.say("figures"), figures or "-")
                for at in range(len(state[0])):
                    self.assertEqual((desk.say(f"left {at}"), desk.say(f"kind {at}")), (str(told.left[at]), told.kind[at]))
                if chance.random() < 0.2:
                    desk.say("do shut")
                    self.assertEqual(desk.say("undo"), "undone")


if __name__ == "__main__":
    unittest.main()
