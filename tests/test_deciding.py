"""[15], [16], [17]: goals, whether they happen, and shortest histories that come to them."""

import unittest

from contrabooks.deciding import goals, happens, least, met
from contrabooks.errors import InvalidGoal, Refused
from contrabooks.houses import House
from contrabooks.moves import Begin, History, Shut, Take
from contrabooks.papers import paper, paper_holds
from contrabooks.reports import Report
from tests.short import (Told, chances, goals_met, goals_of, levels, moves_let, report_of, some_house, some_report,
                         states_of)
from tests.values import HOUSE_TEXT, any_values, full_house

GOALS = ("changed", "moved", "over", "twice", "wrong")
HOUSE = House.read(HOUSE_TEXT)
BACK = House.read(HOUSE_TEXT.replace("whole now", "whole there"))
PLAIN = Report.read("first 1 own\nminus 1 own\nplus 1 own\nnew 1 own")
LATE = Report.read("first 1 own\nminus 1 deed\nplus 1 deed\nnew 1 deed")


def house_of(depth, check, *rows):
    return House.read("\n".join([f"depth {depth}", f"check {check}", *rows]))


def come_to(house, text, report=None):
    return met(house, History.read(text), report)


class Meeting(unittest.TestCase):
    def test_over(self):
        text = "begin 1; take 0 by 1; take 1; take 0 by 1"
        self.assertEqual(come_to(HOUSE, text), ())
        self.assertEqual(come_to(HOUSE, text + "; take 2 by 1"), ("over",))
        # It was so at some moment, though it is so no more.
        self.assertEqual(come_to(HOUSE, text + "; take 2 by 1; take 3"), ("over",))

    def test_all_taken_back_is_not_over(self):
        self.assertEqual(come_to(HOUSE, "begin 2; take 0 by 2"), ())
        self.assertEqual(come_to(HOUSE, "begin 2; take 0 by 1; take 0 by 1"), ())

    def test_moved(self):
        for rows, text, expected in (
            ("first open whole there", "begin 1; take 0", ()),
            ("first shut whole there", "begin 1; shut; take 0", ("moved",)),
            ("first shut whole now", "begin 1; shut; take 0", ()),
            ("first shut part there", "begin 2; shut; shut; begin 1; take 0 by 1; shut", ("moved",)),
            ("first shut right there", "begin 1; shut; right 0 to 2", ("moved",)),
            ("first shut right now", "begin 1; shut; right 0 to 2", ()),
            ("first open right there", "begin 1; right 0 to 2; shut", ()),
        ):
            self.assertEqual(come_to(house_of(1, "left", rows), text), expected, rows)

    def test_twice(self):
        house = house_of(2, "left", "first open right now", "minus open part now", "minus open whole now",
                         "new open whole now", "new open right now", "first open whole now")
        text = "begin 5; right 0 to 7"
        self.assertEqual(come_to(house, text), ())
        self.assertEqual(come_to(house, text + "; take 1 by 1"), ("twice",))
        self.assertEqual(come_to(house, text + "; take 1"), ("twice",))
        # The new entry is taken back ahead of it: then but one is left.
        self.assertEqual(come_to(house, text + "; take 2; take 1"), ())
        self.assertEqual(come_to(house, text + "; take 2; take 1; take 3"), ("twice",))
        # New entries for new ones are of the deed of the first one.
        self.assertEqual(come_to(house, text + "; right 2 to 1; take 1"), ("twice",))
        self.assertEqual(come_to(house, text + "; begin 7; right 3 to 1"), ())

    def test_changed(self):
        house = house_of(2, "left", "first shut part now", "first open right there", "minus shut whole there",
                         "first shut right now")
        for text, history, expected in (
            ("minus 1 own", "begin 5; shut; take 0 by 2", ()),
            ("minus 1 target", "begin 5; shut; take 0 by 2", ("changed",)),
            ("minus -1 top", "begin 5; shut; take 0 by 2", ("changed",)),
            ("minus 0 deed", "begin 5; shut; take 0 by 2", ()),
            ("minus 1 deed", "begin 5; shut; shut", ()),
            ("new 1 deed", "begin 5; right 0 to 3; shut", ()),
            ("new 1 deed", "begin 5; shut; right 0 to 3", ("changed",)),
            ("new 1 target", "begin 5; shut; right 0 to 3", ()),
            ("plus 1 own", "begin 5; shut; take 0 by 2; shut; take 1", ("changed", "moved")),
            # What both count in the month of the deed is 0.
            ("minus 1 deed\nnew 1 deed", "begin 5; shut; right 0 to 5", ()),
            ("minus 1 deed\nnew 1 deed", "begin 5; shut; right 0 to 4", ("changed",)),
            ("minus -1 deed\nnew 1 deed", "begin 5; shut; right 0 to 5", ("changed",)),
        ):
            found = set(come_to(house, history, Report.read(text))) - {"wrong"}
            self.assertEqual(found, set(expected), (text, history))

    def test_wrong(self):
        house = house_of(2, "left", "first shut part now", "minus open whole now", "first open right now",
                         "minus shut whole now")
        for text, history, expected in (
            ("first 1 own", "begin 5", ()),
            ("first 1 top\nminus 1 deed", "begin 5; shut; take 0 by 2", ("changed",)),
            ("first 1 own", "begin 5; shut; take 0 by 2", ("wrong",)),
            ("first 0 own", "begin 5", ("wrong",)),
            ("first -1 own", "begin 5", ("wrong",)),
            ("", "begin 5", ("wrong",)),
            ("", "shut; shut", ()),
            ("first 1 own\nminus 1 own\nplus 1 own", "begin 5; right 0 to 5", ("wrong",)),
            ("first 1 own\nminus 0 own\nnew 0 own", "begin 5; right 0 to 5", ()),
            ("first 1 own\nminus 0 own\nnew 0 own", "begin 5; right 0 to 4", ("wrong",)),
            ("first 1 own\nminus 0 own", "begin 5; shut; take 0 by 1; take 1", ("wrong",)),
            ("first 1 own\nminus 0 own", "begin 5; begin 1; shut", ()),
        ):
            self.assertEqual(come_to(house, history, Report.read(text)), expected, (text, history))

    def test_without_a_report_only_the_first_three(self):
        text = "begin 1; shut; take 0"
        self.assertEqual(come_to(BACK, text), ("moved",))
        self.assertEqual(come_to(BACK, text, Report()), ("moved", "wrong"))
        self.assertEqual(come_to(BACK, text, LATE), ("changed", "moved"))

    def test_no_moves(self):
        for report in (None, Report(), LATE):
            self.assertEqual(met(HOUSE, History(), report), ())
        self.assertEqual(met(house=HOUSE, history=History(), report=Report()), ())

    def test_refused(self):
        for at, text in ((0, "take 0"), (2, "begin 1; shut; take 0 by 1; shut"), (3, "begin 1; take 0 by 1; shut; take 0"),
                         (1, "begin 1; right 0 to 1; begin 1"), (5, "begin 1; take 0 by 1; take 1; take 0 by 1; shut; take 2")):
            for report in (None, LATE):
                with self.assertRaises(Refused) as caught:
                    come_to(HOUSE, text, report)
                self.assertEqual(caught.exception.at, at)

    def test_against_the_words(self):
        for chance in chances(60):
            house, rows = some_house(chance), some_report(chance)
            states, texts = [((), 0)], []
            for _ in range(16):
                text, state = chance.choice(list(moves_let(house, states[-1], Told(states[-1][0])).items()))
                states.append(state)
                texts.append(text)
            history = History.read("; ".join(texts))
            for report, told in ((None, None), (report_of(rows), rows)):
                expected = tuple(sorted(goals_of(states, told)))
                self.assertEqual(met(house, history, report), expected, (str(house), str(history)))


class Asking(unittest.TestCase):
    def test_no_goal(self):
        for value in any_values() + ["Over", "over ", "goal", ["over"], ("over",), HOUSE, PLAIN]:
            for ask in (happens, least, paper):
                for report in (None, PLAIN):
                    with self.assertRaises(InvalidGoal, msg=repr(value)):
                        ask(HOUSE, value, report)
            with self.assertRaises(InvalidGoal, msg=repr(value)):
                paper_holds(HOUSE, value, ())

    def test_the_last_two_need_a_report(self):
        for goal in ("changed", "wrong"):
            for ask in (happens, least, paper):
                with self.assertRaises(InvalidGoal):
                    ask(HOUSE, goal)
                ask(HOUSE, goal, Report())
            with self.assertRaises(InvalidGoal):
                paper_holds(HOUSE, goal, ())

    def test_what_is_returned(self):
        self.assertIs(happens(HOUSE, "over"), True)
        self.assertIs(happens(HOUSE, "moved"), False)
        self.assertIs(happens(house=HOUSE, goal="over", report=None), True)
        self.assertIsInstance(least(house=HOUSE, goal="over", report=None), History)
        self.assertIsNone(least(HOUSE, "moved"))
        self.assertEqual(goals(house=HOUSE, report=None), ("over",))

    def test_a_report_makes_no_difference_for_the_first_three(self):
        for goal in ("over", "moved", "twice"):
            for report in (PLAIN, LATE, Report()):
                self.assertEqual(happens(BACK, goal, report), happens(BACK, goal))
                self.assertEqual(least(BACK, goal, report), least(BACK, goal))

    def test_nothing_is_let(self):
        for house in (House(0, "left"), House(0, "all"), House(4, "left"), full_house(0, "left", "there")):
            self.assertEqual(goals(house), ())
            self.assertEqual(goals(house, PLAIN), ())
            self.assertEqual(goals(house, Report()), ("wrong",))
            self.assertEqual(len(least(house, "wrong", Report())), 1)

    def test_everything_is_let(self):
        self.assertEqual(goals(full_house(4, "left", "there")), ("moved", "over", "twice"))
        self.assertEqual(goals(full_house(4, "all", "there")), ("moved", "twice"))
        self.assertEqual(goals(full_house(4, "left", "now")), ("over", "twice"))
        self.assertEqual(goals(full_house(2, "left", "now")), ("twice",))
        self.assertEqual(goals(full_house(3, "left", "there"), LATE), ("changed", "moved", "over", "twice"))
        self.assertEqual(goals(full_house(1, "left", "there"), Report()), ("moved", "wrong"))

    def test_lengths(self):
        for house, goal, report, many in (
            (HOUSE, "over", None, 5), (BACK, "moved", None, 3), (HOUSE, "changed", LATE, 3),
            (full_house(3, "left", "now"), "over", None, 5), (full_house(4, "all", "now"), "over", None, None),
            (full_house(2, "all", "now"), "twice", None, 3), (full_house(1, "all", "now"), "twice", None, None),
            (house_of(1, "all", "first open right now", "new shut right there"), "moved", None, 4),
            (house_of(2, "all", "first open right now", "minus shut whole there"), "twice", None, 4),
            # The entry that is over is at depth 1, and shut when it is taken back again: the first one is so too early.
            (house_of(4, "left", "first open part now", "minus shut whole now", "plus open part now"), "over", None, 8),
            (house_of(3, "left", "first open part now", "minus shut whole now", "plus open part now"), "over", None, None),
            (house_of(1, "left", "first open right now", "new open right now", "new shut right now"), "changed",
             Report.read("new 1 deed"), 4),
        ):
            history = least(house, goal, report)
            self.assertEqual(None if history is None else len(history), many, (str(house), goal))
            if history is not None:
                self.assertIn(goal, met(house, history, report))

    def test_weights_of_the_kinds(self):
        house = house_of(2, "left", "first open whole now", "minus open whole now", "first shut right now")
        full = {"first": 1, "new": 1, "minus": 1, "plus": 1}
        for kind, many in (("first", 1), ("minus", 2), ("plus", 3), ("new", 3)):
            for weight in (-1, 0):
                rows = {**full, kind: weight}
                report = Report.read("\n".join(f"{word} {rows[word]} own" for word in rows))
                self.assertEqual(len(least(house, "wrong", report)), many, (kind, weight))
        report = Report.read("\n".join(f"{word} 1 own" for word in full))
        self.assertIsNone(least(house, "wrong", report))

    def test_new_entries_hide_nothing(self):
        # With equal amounts the minus and the new entry would make up for each other.
        house = house_of(1, "all", "first shut right now")
        for text, goal in (("minus 1 deed\nnew 1 deed\nfirst 1 own", "changed"), ("first 1 own", "wrong")):
            history = least(house, goal, Report.read(text))
            self.assertIn(goal, met(house, history, Report.read(text)))

    def test_same_call_same_result(self):
        first = least(HOUSE, "over")
        for house in (BACK, full_house(4, "left", "there"), HOUSE):
            least(house, "twice")
            goals(house, LATE)
        self.assertEqual(least(HOUSE, "over"), first)


class AgainstAllShortHistories(unittest.TestCase):
    def first_met(self, house, rows, moves, most):
        """After how many moves each goal is first met, and how many moves were tried."""
        found, many = {}, 0
        for triples in levels(lambda state, told: moves_let(house, state, told), moves, most):
            many += 1
            for state, _, later in triples:
                for goal in goals_met(state[1], Told(state[0]), Told(later[0]), rows):
                    found.setdefault(goal, many)
        return found, many

    def check(self, house, rows, moves, most):
        report = report_of(rows)
        found, many = self.first_met(house, rows, moves, most)
        happening = []
        for goal in GOALS:
            history = least(house, goal, report)
            why = (str(house), str(report), goal, str(history))
            self.assertIs(happens(house, goal, report), history is not None, why)
            told = paper(house, goal, report)
            if history is None:
                self.assertNotIn(goal, found, why)
                self.assertIs(paper_holds(house, goal, told, report), True, why)
                continue
            happening.append(goal)
            self.assertIsNone(told, why)
            self.assertEqual(found.get(goal), len(history) if len(history) <= many else None, why)
            states = states_of(house, history)
            self.assertIsNotNone(states, why)
            self.assertIn(goal, goals_of(states, rows), why)
            self.assertIn(goal, met(house, history, report), why)
            self.assertNotIn(goal, met(house, history[:-1], report), why)
        self.assertEqual(goals(house, report), tuple(happening))
        self.assertEqual(goals(house), tuple(goal for goal in happening if goal not in ("changed", "wrong")))

    def test_some_houses(self):
        for chance in chances(45):
            self.check(some_house(chance), some_report(chance), 5, 1500)

    def test_few_rows(self):
        rows = {"first": (1, "own"), "minus": (1, "deed"), "plus": (1, "own"), "new": (1, "target")}
        for house in (HOUSE, BACK, house_of(2, "left", "first shut right there", "minus shut part now"),
                      house_of(3, "left", "first open whole there", "minus shut whole now", "plus shut part there"),
                      house_of(4, "all", "first open whole there", "minus open part now", "plus shut part there")):
            self.check(house, rows, 6, 4000)


class Kept(unittest.TestCase):
    def test_no_argument_is_changed(self):
        moves = [Begin(1), Take(0, 1), Shut()]
        history = History(moves)
        met(HOUSE, history, LATE)
        self.assertEqual((history, len(moves)), (History.read("begin 1; take 0 by 1; shut"), 3))
        self.assertEqual(str(HOUSE), HOUSE_TEXT)

    def test_limits(self):
        house = House(4, "left", full_house(4, "left", "now").rows + full_house(4, "left", "there").rows[:4])
        history = History([Begin(10 ** 12)] + [Take(0, 1), Shut()] * 19 + [Take(0)])
        self.assertEqual((len(house), len(history)), (24, 40))
        self.assertEqual(met(house, history, LATE), ("changed",))
        self.assertEqual(goals(house, LATE), ("changed", "over", "twice"))


if __name__ == "__main__":
    unittest.main()
