"""[18], [19], [20]: standings, steps, papers, and whether any value is one."""

import itertools
import unittest

from contrabooks.deciding import GOALS, happens
from contrabooks.houses import House
from contrabooks.papers import paper, paper_holds
from contrabooks.reports import Figures, Report
from tests.short import chances, place_of, report_of, some_house, some_report
from tests.values import HOUSE_TEXT, any_values, deep, full_house

HOUSE = House.read(HOUSE_TEXT)
ONCE = House.read("depth 1\ncheck left\nfirst open whole now")
NOTHING = House(0, "left")
BEGINNING = (0, (0,), False, False, False, 0)
SHUT = (0, (0,), False, False, False, 1)
TAKEN = (0, (0, 0), False, False, False, 0)
TOLD = (BEGINNING, SHUT, TAKEN, (0, (0, 0), False, False, False, 1))


class Rules:
    """The words of [18] and [19], one by one, for a house, a goal and the rows of a report."""

    def __init__(self, house, goal, rows):
        self.house, self.goal, self.rows = house, goal, rows

    def order(self, deed, months, is_new, is_righted, is_hit, latest):
        numbers = sorted({deed, latest, *months})
        rank = {number: at for at, number in enumerate(numbers)}
        return rank[deed], tuple(rank[month] for month in months), is_new, is_righted, is_hit, rank[latest]

    def kind(self, is_new, depth):
        return ("new" if is_new else "first", "minus", "plus", "minus", "plus", "minus")[depth]

    def let(self, standing, at, deed):
        """The place and the month for a deed to an entry of the path, or None."""
        _, months, is_new, _, _, latest = standing
        state = "shut" if months[at] < latest else "open"
        place = place_of(self.house, self.kind(is_new, at), state, deed)
        if at >= self.house.depth or place is None:
            return None
        return place, latest if place == "now" else months[at]

    def counts_in(self, kind, own, target, top, deed):
        weight, word = self.rows.get(kind, (0, "own"))
        return weight, {"own": own, "target": target, "top": top, "deed": deed}[word]

    def meets(self, latest, made, place=None, month=None, of_righted=False):
        """Whether a take or a right meets the goal; made are tuples (kind, own, target, top, deed)."""
        if self.goal == "moved":
            return place == "there" and month < latest
        if self.goal == "twice":
            return of_righted
        for entry in made:
            weight, where = self.counts_in(*entry)
            if self.goal == "changed" and weight != 0 and where < latest:
                return True
            if self.goal == "wrong" and weight != 1:
                return True
        return False

    def begins_well(self):
        return not self.meets(0, [("first", 0, 0, 0, 0)])

    def steps(self, standing):
        """The standings to which steps lead, or None if a step meets the goal."""
        deed, months, is_new, is_righted, is_hit, latest = standing
        found = [self.order(deed, months, is_new, is_righted, is_hit, 1 + max(deed, latest, *months))]
        last = len(months) - 1
        for way in ("whole", "part"):
            let = self.let(standing, last, way)
            if let and is_hit and self.house.check == "left" and self.goal == "over":
                return None
            if let and not is_hit:
                made = [(self.kind(is_new, last + 1), let[1], months[last], months[0], deed)]
                if self.meets(latest, made, let[0], months[last], is_righted):
                    return None
                found.append(self.order(deed, months + (let[1],), is_new, False, False, latest))
            if self.goal == "over" and last >= 2 and not is_hit and self.let(standing, last - 2, way):
                found.append((deed, months, is_new, is_righted, True, latest))
        let = self.let(standing, 0, "right")
        if let and last == 0:
            made = [("minus", let[1], months[0], months[0], deed), ("new", let[1], let[1], let[1], deed)]
            if self.meets(latest, made, let[0], months[0]):
                return None
            found.append(self.order(deed, months + (let[1],), is_new, True, False, latest))
            found.append(self.order(deed, (let[1],), True, False, False, latest))
        return found

    def lasting(self, standings):
        """Those of some standings from which no steps lead to the goal, or to what is not among them."""
        leads = {standing: self.steps(standing) for standing in standings}
        kept = {standing for standing in standings if leads[standing] is not None}
        while True:
            fewer = {standing for standing in kept if kept.issuperset(leads[standing])}
            if fewer == kept:
                return kept
            kept = fewer

    def reached(self):
        """The standings to which a history comes, or None if the goal is met."""
        if not self.begins_well():
            return None
        found, todo = {BEGINNING}, [BEGINNING]
        while todo:
            leads = self.steps(todo.pop())
            if leads is None:
                return None
            todo.extend(lead for lead in leads if lead not in found)
            found.update(leads)
        return found

    def holds(self, standings):
        leads = [self.steps(standing) for standing in standings]
        if None in leads or not self.begins_well() or BEGINNING not in standings:
            return False
        return all(lead in standings for found in leads for lead in found)


def all_standings(most):
    """All standings with paths of at most so many entries."""
    found = []
    for many in range(1, most + 1):
        for deed, *months in itertools.product(range(many + 2), repeat=many + 1):
            numbers = {deed, *months}
            for latest in {max(numbers), max(numbers) + 1}:
                if numbers | {latest} == set(range(latest + 1)):
                    for is_new, is_righted, is_hit in itertools.product((False, True), repeat=3):
                        if many >= (3 if is_hit else 2 if is_righted else 1):
                            found.append((deed, tuple(months), is_new, is_righted, is_hit, latest))
    return found


def goals_tried(chance):
    """Each goal with the rows of a report by chance."""
    for goal in GOALS:
        rows = some_report(chance)
        if goal == "wrong" and chance.random() < 0.7:
            rows = {kind: (1, word) for kind, (_, word) in rows.items()}
        yield goal, rows


class Papers(unittest.TestCase):
    def test_what_is_returned(self):
        found = paper(HOUSE, "twice")
        self.assertIsInstance(found, tuple)
        self.assertIs(paper_holds(HOUSE, "twice", found), True)
        self.assertIsNone(paper(HOUSE, "over"))
        self.assertIs(paper_holds(HOUSE, "over", found), False)
        self.assertIs(paper_holds(house=ONCE, goal="twice", value=TOLD, report=None), True)
        self.assertEqual(set(paper(house=ONCE, goal="twice", report=None)), set(TOLD))
        self.assertEqual(set(paper(NOTHING, "over")), {BEGINNING, SHUT})

    def test_either_a_history_or_a_paper(self):
        for chance in chances(120, 2000):
            house = some_house(chance)
            for goal, rows in goals_tried(chance):
                report, rules = report_of(rows), Rules(house, goal, rows)
                found, expected = paper(house, goal, report), rules.reached()
                why = (str(house), goal, rows)
                self.assertIs(happens(house, goal, report), found is None, why)
                self.assertIs(found is None, expected is None, why)
                if found is not None:
                    self.assertIs(paper_holds(house, goal, found, report), True, why)
                    self.assertIs(rules.holds(set(found)), True, why)

    def test_no_standing_that_a_history_comes_to_may_lack(self):
        for chance in chances(25, 3000):
            house = some_house(chance)
            for goal, rows in goals_tried(chance):
                report, reached = report_of(rows), Rules(house, goal, rows).reached()
                if reached is None:
                    continue
                told = sorted(reached, key=repr)
                self.assertIs(paper_holds(house, goal, tuple(told), report), True)
                for at in chance.sample(range(len(told)), min(12, len(told))):
                    fewer = tuple(told[:at] + told[at + 1:])
                    self.assertIs(paper_holds(house, goal, fewer, report), False, (str(house), goal, told[at]))

    def test_standings_that_no_history_comes_to(self):
        standings = all_standings(3)
        for chance in chances(12, 4000):
            house = some_house(chance)
            for goal, rows in goals_tried(chance):
                report = report_of(rows)
                # In a house that is no deeper no step leads to a longer path than those tried.
                flat = House(min(house.depth, 2), house.check, house.rows)
                rules = Rules(flat, goal, rows)
                kept = rules.lasting(standings)
                holds = rules.holds(kept)
                told = tuple(sorted(kept, key=repr))
                self.assertIs(paper_holds(flat, goal, told, report), holds, (str(flat), goal, rows))
                if holds:
                    for other in chance.sample(sorted(set(standings) - kept, key=repr), min(15, len(standings) - len(kept))):
                        self.assertIs(paper_holds(flat, goal, told + (other,), report), False, (str(flat), goal, other))

    def test_some_of_all_standings(self):
        standings = all_standings(4)
        met = set()
        for chance in chances(60, 5000):
            house = some_house(chance)
            for goal, rows in goals_tried(chance):
                report, rules = report_of(rows), Rules(house, goal, rows)
                reached = rules.reached()
                if reached is None:
                    continue
                for other in chance.sample(standings, 10):
                    more = (*sorted(reached, key=repr), other)
                    expected = rules.holds(set(more))
                    met.add((goal, expected))
                    self.assertIs(paper_holds(house, goal, more, report), expected, (str(house), goal, rows, other))
        self.assertEqual(met, set(itertools.product(GOALS, (False, True))))

    def test_many_standings(self):
        standings = tuple(all_standings(4))
        self.assertGreater(len(standings), 3000)
        self.assertIs(paper_holds(House(0, "left"), "over", standings), True)
        self.assertIs(paper_holds(full_house(3, "all", "now"), "over", standings), True)
        self.assertIs(paper_holds(full_house(4, "all", "now"), "over", standings), False)
        self.assertIs(paper_holds(full_house(3, "left", "now"), "over", standings), False)


class Holding(unittest.TestCase):
    def holds(self, *more, house=NOTHING, goal="over", report=None):
        found = paper_holds(house, goal, (BEGINNING, SHUT, *more), report)
        self.assertIsInstance(found, bool)
        return found

    def test_example(self):
        self.assertIs(paper_holds(ONCE, "twice", TOLD), True)
        for at in range(4):
            self.assertIs(paper_holds(ONCE, "twice", TOLD[:at] + TOLD[at + 1:]), False)
        for order in itertools.permutations(TOLD):
            self.assertIs(paper_holds(ONCE, "twice", order), True)

    def test_standings_may_stand_there_twice(self):
        self.assertIs(paper_holds(ONCE, "twice", TOLD + TOLD + TOLD[:1]), True)

    def test_any_values(self):
        values = any_values() + [Figures(), Report(), TOLD[:0], list(TOLD), TOLD + (None,), (TOLD,), [TOLD],
                                 (list(BEGINNING), SHUT), "paper", deep(BEGINNING, 8), {BEGINNING: 1}]
        for value in values:
            for goal in ("over", "moved", "twice"):
                self.assertIs(paper_holds(ONCE, goal, value), False, repr(value))
            self.assertIs(paper_holds(ONCE, "wrong", value, Report()), False, repr(value))
            self.assertIs(self.holds(value), False, repr(value))
            self.assertIs(self.holds((value,) * 6), False, repr(value))

    def test_the_form_of_each_part(self):
        good = (0, (0, 1, 1, 1), False, False, True, 2)
        # To this one a step leads if the deed is 2.
        later = (2, (0, 1, 1, 1), False, False, True, 3)
        self.assertIs(self.holds(good, later), True)
        for at in range(6):
            for value in any_values() + [2, 3, 10 ** 40, -1, 0.0, ((0, 1, 1, 1),), (0, 1, 1, 1), [0, 1, 1, 1]]:
                changed = good[:at] + (value,) + good[at + 1:]
                is_flag = isinstance(value, bool)
                right = (not is_flag and value in (0, 1, 2) if at == 0 else not is_flag and value == good[at]
                         if at in (1, 5) else is_flag)
                if value == 0.0 and isinstance(value, float):
                    right = False
                self.assertIs(self.holds(changed, later), right, repr(changed))

    def test_true_is_not_1(self):
        for standing in ((0, (0,), False, False, False, True), (False, (0,), False, False, False, 1),
                         (0, (False,), False, False, False, 1), (0, (0,), 0, False, False, 1),
                         (0, (0,), False, 0, False, 1), (0, (0,), False, False, 0, 1), (0, (0, True), False, False, False, 1)):
            self.assertIs(self.holds(standing), False, standing)
        self.assertIs(paper_holds(NOTHING, "over", ((0, (0,), False, False, False, False), SHUT)), False)
        self.assertIs(self.holds((0, (0,), True, False, False, 1)), True)

    def test_lists_in_the_place_of_tuples(self):
        self.assertIs(paper_holds(NOTHING, "over", [BEGINNING, SHUT]), False)
        self.assertIs(self.holds(list(SHUT)), False)
        self.assertIs(self.holds((0, [0], False, False, False, 1)), False)

    def test_too_short_or_too_long(self):
        self.assertIs(self.holds(SHUT[:5]), False)
        self.assertIs(self.holds(SHUT + (1,)), False)
        self.assertIs(self.holds(()), False)
        self.assertIs(paper_holds(NOTHING, "over", ()), False)
        self.assertIs(paper_holds(NOTHING, "over", (BEGINNING,)), False)
        self.assertIs(paper_holds(NOTHING, "over", (SHUT,)), False)

    def test_one_to_five_months(self):
        for many in range(9):
            standing = (0, (0,) * many, False, False, False, 1)
            self.assertIs(self.holds(standing), 1 <= many <= 5)

    def test_numbers_without_a_gap(self):
        for deed, first, second, latest in itertools.product(range(-1, 4), repeat=4):
            found = (deed, (first, second), False, False, False, latest)
            told = {deed, first, second, latest}
            right = told == set(range(latest + 1))
            # The open month is later than all others in one of the two, where the step from the other one leads.
            later = Rules(NOTHING, "over", {}).order(deed, (first, second), False, False, False, max(told) + 1)
            self.assertIs(self.holds(found, later), right and min(told) == 0, found)
        # As many numbers as there should be, and a step leads to the beginning.
        self.assertIs(self.holds((2, (2,), False, False, False, 1)), False)
        for huge in (10 ** 9, 10 ** 30, -(10 ** 30)):
            self.assertIs(self.holds((0, (0,), False, False, False, huge)), False)
            self.assertIs(self.holds((huge, (0,), False, False, False, 0)), False)
            self.assertIs(self.holds((0, (huge,), False, False, False, 1)), False)
            self.assertIs(self.holds((huge, (huge,), False, False, False, huge)), False)

    def test_paths_that_are_righted_or_hit(self):
        for many, is_righted, is_hit in itertools.product(range(1, 6), (False, True), (False, True)):
            standing = (0, (0,) * many, True, is_righted, is_hit, 1)
            self.assertIs(self.holds(standing), many >= (3 if is_hit else 2 if is_righted else 1))

    def test_longer_paths_than_the_house_lets(self):
        rows = full_house(1, "left", "now").rows
        reached = paper(House(1, "left", rows), "over")
        five = (0, (0,) * 5, False, False, False, 1)
        self.assertIs(paper_holds(House(1, "left", rows), "over", (*reached, five)), True)
        # Here, the entry two targets above the last one may be taken back again.
        three = (0, (0,) * 3, False, False, False, 1)
        self.assertIs(paper_holds(House(1, "left", rows), "over", (*reached, three)), False)
        self.assertIs(paper_holds(House(1, "left", rows), "over", (*reached, three, three[:4] + (True, 1))), True)
        self.assertIs(paper_holds(House(1, "left", rows), "moved", (*reached, three)), True)

    def test_hit(self):
        five, hit = (0, (0, 0, 0, 0, 0), False, False, False, 1), (0, (0, 0, 0, 0, 0), False, False, True, 1)
        text = "depth {}\ncheck {}\nplus shut part now"
        for depth, check, last, told, holds in (
            (4, "left", 5, (five,), False), (4, "left", 5, (five, hit), True), (4, "all", 5, (five, hit), True),
            (2, "left", 5, (five,), True),
        ):
            standings = tuple(standing[:1] + (standing[1][:last],) + standing[2:] for standing in told)
            house = House.read(text.format(depth, check))
            self.assertIs(self.holds(*standings, house=house), holds, (depth, check, told))
            self.assertIs(self.holds(*standings, house=house, goal="moved"), True)
        three = (0, (0, 0, 0), False, False, True, 1)
        house = House.read("depth 3\ncheck left\nplus shut whole now")
        self.assertIs(self.holds(three, house=house), False)
        # It meets no other goal, whatever is let.
        self.assertIs(self.holds(three, house=house, goal="twice"), True)
        self.assertIs(self.holds(three, house=House.read("depth 3\ncheck left\nplus shut part there"), goal="moved"), True)
        self.assertIs(self.holds(three, house=House.read("depth 3\ncheck all\nplus shut part there")), True)
        self.assertIs(self.holds(three, house=House.read("depth 2\ncheck left\nplus shut part there")), True)

    def test_take_of_what_is_righted(self):
        house = House.read("depth 2\ncheck left\nminus shut part now")
        for righted in (False, True):
            standing = (0, (0, 0), False, righted, False, 1)
            taken = (0, (0, 0, 1), False, False, False, 1), (0, (0, 0, 1), False, False, False, 2)
            self.assertIs(self.holds(standing, *taken, house=house, goal="twice"), not righted)
            self.assertIs(self.holds(standing, *taken, house=house, goal="over"), True)
            self.assertIs(self.holds(standing, house=house, goal="over"), False)

    def test_the_beginning_meets_wrong(self):
        self.assertIs(self.holds(goal="wrong", report=Report.read("first 1 own")), True)
        for text in ("", "first 0 own", "first -1 own", "new 1 own\nminus 1 own\nplus 1 own"):
            self.assertIs(self.holds(goal="wrong", report=Report.read(text)), False)
        self.assertIs(self.holds(goal="changed", report=Report.read("first -1 own")), True)


if __name__ == "__main__":
    unittest.main()
