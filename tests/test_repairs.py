"""[23]: the choices of rows without which a goal does not happen."""

import itertools
import unittest

from contrabooks.deciding import GOALS, happens, least
from contrabooks.errors import InvalidGoal
from contrabooks.houses import House, Let
from contrabooks.repairs import repairs
from contrabooks.reports import Report
from tests.short import Told, chances, goals_met, levels, moves_let, report_of, some_report
from tests.values import DEEDS, HOUSE_TEXT, KINDS, STATES, any_values

HOUSE = House.read(HOUSE_TEXT)
BACK = House.read(HOUSE_TEXT.replace("whole now", "whole there"))
PLAIN = Report.read("first 1 own\nminus 1 own\nplus 1 own\nnew 1 own")
LATE = Report.read("first 1 own\nminus 1 deed\nplus 1 deed\nnew 1 deed")
WORDS = [(kind, state, deed) for kind in KINDS for state in STATES for deed in DEEDS
         if deed != "right" or kind in ("first", "new")]


def house_of(depth, check, *rows):
    return House.read("\n".join([f"depth {depth}", f"check {check}", *rows]))


def without(house, numbers):
    """The house without some rows, by another way than its own."""
    return House(house.depth, house.check, [row for at, row in enumerate(house.rows) if at not in numbers])


def all_choices(many):
    """All choices out of so many numbers, shorter ones first, then ascending."""
    return [numbers for size in range(many + 1) for numbers in itertools.combinations(range(many), size)]


def least_choices(many, is_enough):
    """The choices out of so many numbers that are enough while no part of them is, by the words."""
    enough = {numbers for numbers in all_choices(many) if is_enough(numbers)}
    return tuple(numbers for numbers in all_choices(many)
                 if numbers in enough and not any(set(other) < set(numbers) for other in enough))


def some_rows(chance, many):
    """So many rows by chance; some of them have the same first three words."""
    words = [chance.choice(WORDS[:12] if chance.random() < 0.5 else WORDS) for _ in range(many)]
    return [Let(*word, chance.choice(("now", "there"))) for word in words]


class Choices(unittest.TestCase):
    def test_examples_of_the_document(self):
        self.assertEqual(repairs(HOUSE, "over"), ((2,), (3,), (0, 1)))
        self.assertEqual(repairs(BACK, "moved"), ((1,),))

    def test_a_goal_that_never_happens(self):
        for house, goal, report in (
            (HOUSE, "moved", None), (HOUSE, "twice", None), (House(0, "all"), "over", None), (HOUSE, "wrong", PLAIN),
            (House(4, "left"), "moved", LATE), (HOUSE, "changed", PLAIN),
        ):
            self.assertEqual(repairs(house, goal, report), ((),))

    def test_a_goal_that_happens_without_any_row(self):
        for house in (HOUSE, BACK, House(0, "all"), House(3, "left", HOUSE.rows[:1])):
            self.assertEqual(repairs(house, "wrong", Report()), ())
            self.assertEqual(repairs(house, "wrong", Report.read("first -1 own")), ())

    def test_one_row(self):
        house = house_of(1, "all", "first shut part there")
        self.assertEqual(repairs(house, "moved"), ((0,),))
        self.assertEqual(repairs(house, "over"), ((),))

    def test_a_row_that_stands_there_twice(self):
        row = "first shut whole there"
        self.assertEqual(repairs(house_of(1, "all", row, row), "moved"), ((0, 1),))
        self.assertEqual(repairs(house_of(1, "all", row, "minus open part now", row, row), "moved"), ((0, 2, 3),))

    def test_a_row_behind_which_another_one_comes_to_count(self):
        now, there = "first shut whole now", "first shut whole there"
        self.assertEqual(repairs(house_of(1, "all", there, now), "moved"), ((0,),))
        # Without any one of the first three rows the goal happens as before; without the first two the third one counts.
        self.assertEqual(repairs(house_of(1, "all", there, there, now, there), "moved"), ((0, 1),))
        # The first row alone keeps the second one from counting.
        self.assertEqual(repairs(house_of(1, "all", now, there), "moved"), ((),))
        self.assertEqual(repairs(house_of(1, "all", now, there, "first shut part there"), "moved"), ((2,),))

    def test_shorter_ones_first_then_ascending(self):
        rows = ("first shut whole there", "first shut right there", "first open right now", "new shut part there")
        self.assertEqual(repairs(house_of(1, "all", *rows), "moved"), ((0, 1, 2), (0, 1, 3)))
        rows = ("plus open part now", "first open part now", "minus open part now", "first open whole now")
        self.assertEqual(repairs(house_of(3, "left", *rows), "over"), ((0,), (2,), (1, 3)))
        report = Report.read("first 1 own\nminus 1 own")
        self.assertEqual(repairs(house_of(2, "left", *rows), "wrong", report), ((2,), (1, 3)))

    def test_goals_of_a_report(self):
        self.assertEqual(repairs(HOUSE, "changed", LATE), ((1,),))
        self.assertEqual(repairs(house_of(1, "all", "first shut part now"), "changed", LATE), ((0,),))
        self.assertEqual(repairs(house_of(1, "all", "first shut part now"), "changed", PLAIN), ((),))

    def test_no_goal(self):
        for value in any_values() + ["Over", "over ", "goal", ["over"], ("over",), HOUSE, PLAIN]:
            for house, report in ((HOUSE, None), (HOUSE, PLAIN), (House(0, "all"), None), (House(0, "left"), PLAIN)):
                with self.assertRaises(InvalidGoal, msg=repr(value)):
                    repairs(house, value, report)
        for goal in ("changed", "wrong"):
            with self.assertRaises(InvalidGoal):
                repairs(HOUSE, goal)
            with self.assertRaises(InvalidGoal):
                repairs(house=HOUSE, goal=goal, report=None)

    def test_what_is_returned_and_kept(self):
        found = repairs(house=HOUSE, goal="over", report=None)
        self.assertIsInstance(found, tuple)
        for numbers in found:
            self.assertIsInstance(numbers, tuple)
        self.assertEqual(repairs(HOUSE, "over", LATE), found)
        self.assertEqual(str(HOUSE), HOUSE_TEXT)
        repairs(BACK, "moved")
        self.assertEqual(repairs(HOUSE, "over"), found)


class AgainstAllChoices(unittest.TestCase):
    def check(self, house, goal, report):
        found = repairs(house, goal, report)
        why = (str(house), goal, str(report), found)
        expected = least_choices(len(house), lambda numbers: not happens(without(house, numbers), goal, report))
        self.assertEqual(found, expected, why)
        for numbers in found:
            self.assertIs(happens(without(house, numbers), goal, report), False, why)
            for at in numbers:
                self.assertIs(happens(without(house, set(numbers) - {at}), goal, report), True, why)
        for one, other in itertools.permutations(found, 2):
            self.assertFalse(set(one) <= set(other), why)
        return len(found)

    def test_small_houses(self):
        many = 0
        for chance in chances(120):
            rows = some_rows(chance, chance.choice((3, 4, 5, 6)))
            house = House(chance.choice((1, 2, 3, 4)), chance.choice(("left", "left", "all")), rows)
            for goal in GOALS:
                many += self.check(house, goal, report_of(some_report(chance))) > 1
        self.assertGreater(many, 20)

    def test_houses_of_as_many_rows_as_may_be_passed_and_more(self):
        for chance in chances(4, 700):
            house = House(4, "left", [Let(*word, chance.choice(("now", "there"))) for word in chance.sample(WORDS, 8)])
            for goal in ("over", "moved", "twice"):
                self.check(house, goal, None)
        rows = [Let(*word, "there") for word in WORDS[:10]]
        self.check(House(4, "left", rows), "moved", None)


class AgainstAllShortHistories(unittest.TestCase):
    def is_met(self, house, goal, rows, moves):
        """Whether some history of at most so many moves comes to a goal."""
        for triples in levels(lambda state, told: moves_let(house, state, told, (1, 3), 1), moves, 10 ** 5):
            for before, _, after in triples:
                if goal in goals_met(before[1], Told(before[0]), Told(after[0]), rows):
                    return True
        return False

    def test_small_houses(self):
        checked = 0
        for chance in chances(60, 300):
            house = House(chance.choice((1, 2)), chance.choice(("left", "all")), some_rows(chance, 3))
            rows = some_report(chance)
            for goal in ("moved", "changed", "wrong", "twice"):
                shortest = [least(without(house, numbers), goal, report_of(rows)) for numbers in all_choices(3)]
                if shortest[0] is None or any(history is not None and len(history) > 4 for history in shortest):
                    continue
                expected = least_choices(3, lambda numbers: not self.is_met(without(house, numbers), goal, rows, 4))
                self.assertEqual(repairs(house, goal, report_of(rows)), expected, (str(house), goal, rows))
                checked += expected not in ((), ((),))
        self.assertGreater(checked, 10)


if __name__ == "__main__":
    unittest.main()
