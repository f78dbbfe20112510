"""[21], [22]: reports alike or not, references that are needed, houses the same or not."""

import itertools
import unittest

from contrabooks.books import play
from contrabooks.comparing import alike, apart, needed, parting, same
from contrabooks.errors import Refused
from contrabooks.houses import House, Let
from contrabooks.moves import History
from contrabooks.reports import Report
from tests.short import WORDS, Told, chances, levels, moves_let, report_of, some_house, some_report, states_of
from tests.values import DEEDS, HOUSE_TEXT, KINDS, STATES, full_house

HOUSE = House.read(HOUSE_TEXT)
BACK = House.read(HOUSE_TEXT.replace("whole now", "whole there"))
PLAIN = Report.read("first 1 own\nminus 1 own\nplus 1 own\nnew 1 own")
LATE = Report.read("first 1 own\nminus 1 deed\nplus 1 deed\nnew 1 deed")
FULL = tuple(full_house(4, check, place) for check in ("left", "all") for place in ("now", "there"))


def house_of(depth, check, *rows):
    return House.read("\n".join([f"depth {depth}", f"check {check}", *rows]))


class Reports(unittest.TestCase):
    def length(self, house, r, s):
        """The length of a history that parts two reports, or None, when all else that is told fits it."""
        found = parting(house, r, s)
        self.assertIs(alike(house, r, s), found is None)
        self.assertIs(alike(house, s, r), found is None)
        if found is None:
            return None
        self.assertIsInstance(found, History)
        self.assertNotEqual(r(play(house, found)), s(play(house, found)))
        self.assertEqual(len(parting(house, s, r)), len(found))
        for many in range(len(found)):
            self.assertEqual(r(play(house, found[:many])), s(play(house, found[:many])))
        return len(found)

    def test_equal_reports(self):
        for house in (HOUSE, BACK, House(0, "left"), *FULL):
            for r, s in ((PLAIN, PLAIN), (Report(), Report()), (Report(), Report.read("first 0 top\nnew 0 deed")),
                         (Report.read("minus 0 top\nfirst 1 own"), Report.read("first 1 own\nminus 0 deed"))):
                self.assertIsNone(self.length(house, r, s))

    def test_first_entries_count_in_their_own_month(self):
        for word, other in itertools.product(WORDS, WORDS):
            r, s = Report.read("first 1 " + word), Report.read("first 1 " + other)
            self.assertIsNone(self.length(FULL[0], r, s))
        for weight, other in itertools.permutations((-1, 0, 1), 2):
            r, s = Report.read(f"first {weight} own"), Report.read(f"first {other} own")
            self.assertEqual(self.length(House(0, "all"), r, s), 1)

    def test_lengths(self):
        minus = "minus 1 deed", "minus 1 own"
        for house, texts, many in (
            (HOUSE, ("minus 1 own", "minus -1 own"), 2),
            (HOUSE, ("plus 1 own", "plus 0 own"), 3),
            (HOUSE, ("new 1 own", ""), None),
            (HOUSE, minus, 3),
            (house_of(1, "all", "first shut part there"), minus, None),
            (house_of(1, "all", "first open part now"), minus, None),
            (house_of(1, "all", "first open right now"), minus, None),
            (house_of(1, "all", "first shut right now"), minus, 3),
            (house_of(1, "all", "first shut right now"), ("new 1 deed", "new 1 top"), 3),
            (house_of(1, "all", "first shut right now"), ("minus 1 own\nnew 1 deed", "minus 1 deed\nnew 1 own"), 3),
            (house_of(1, "all", "first open right now"), ("minus 1 own", "minus 0 own"), 2),
            (house_of(2, "all", "first open part now", "minus shut part now"), ("plus 1 top", "plus 1 target"), None),
            (house_of(2, "all", "first shut part now", "minus open part now"), ("plus 1 top", "plus 1 target"), 4),
            (house_of(2, "all", "first open right now", "new shut part now"), ("minus 1 top", "minus 1 deed"), None),
            (house_of(2, "all", "first shut right now", "new open part now"), ("minus 1 top", "minus 1 deed"), 4),
            (house_of(1, "all"), ("minus 1 own", "new 1 own"), None),
            (house_of(0, "all", "first open right now"), ("minus 1 own", "new 1 own"), None),
        ):
            self.assertEqual(self.length(house, *[Report.read(text) for text in texts]), many, (str(house), texts))

    def test_equal_amounts_would_hide_it(self):
        # What the two reports count of the minus and of the new entry, each in its way, is the same if both are equal.
        house = house_of(1, "all", "first shut right now")
        self.assertEqual(self.length(house, Report.read("minus 1 own\nnew 1 own"), Report()), 3)
        self.assertEqual(self.length(house, Report.read("minus 1 deed\nnew 1 own"), Report.read("minus 1 own\nnew 1 deed")), 3)

    def test_by_parameter_names(self):
        self.assertIs(alike(house=HOUSE, r=PLAIN, s=LATE), False)
        self.assertEqual(len(parting(house=HOUSE, r=PLAIN, s=LATE)), 3)
        self.assertEqual(needed(house=HOUSE, report=LATE), ("minus", "plus"))


class References(unittest.TestCase):
    def test_needed(self):
        late = "first 1 deed\nnew 1 deed\nminus 1 deed\nplus 1 deed"
        for house, text, kinds in (
            (HOUSE, late, ("minus", "plus")),
            (FULL[0], late, ("new", "minus", "plus")),
            (FULL[0], late.replace("deed", "top"), ("minus", "plus")),
            (FULL[0], late.replace("deed", "target"), ("minus", "plus")),
            (FULL[0], late.replace("deed", "own"), ()),
            (FULL[0], late.replace("minus 1", "minus 0"), ("new", "plus")),
            (FULL[0], late.replace("minus 1", "minus -1"), ("new", "minus", "plus")),
            (FULL[0], "minus 1 deed", ("minus",)),
            (FULL[0], "", ()),
            (FULL[1], late, ()),
            (house_of(0, "all", "first shut part now"), late, ()),
            (house_of(1, "all", "first open part now"), late, ()),
            (house_of(1, "all", "first shut part there"), late, ()),
            (house_of(1, "all", "first shut part now", "minus open part now"), late, ("minus",)),
            (house_of(2, "all", "first open part now", "minus shut part now"), late, ("plus",)),
            (house_of(2, "all", "first shut right now"), "new 1 deed", ("new",)),
            (house_of(2, "all", "first shut right now"), "plus 1 deed\nminus 1 target", ("minus",)),
            (house_of(2, "all", "first shut part now", "minus open part there"), "plus 1 target\nminus 1 own", ()),
        ):
            self.assertEqual(needed(house, Report.read(text)), kinds, (str(house), text))


class Houses(unittest.TestCase):
    def outcome(self, house, history):
        """What a house makes of a history: whether all moves are let, and the book or the number of the move."""
        try:
            return True, play(house, history)
        except Refused as caught:
            return False, caught.at

    def length(self, p, q):
        """The length of a history that is another one in two houses, or None, when all else that is told fits it."""
        found = apart(p, q)
        self.assertIs(same(p, q), found is None)
        self.assertIs(same(q, p), found is None)
        if found is None:
            return None
        self.assertIsInstance(found, History)
        mine, others = self.outcome(p, found), self.outcome(q, found)
        self.assertTrue(mine[0] or others[0])
        self.assertNotEqual(mine, others)
        self.assertEqual(self.outcome(p, found[:-1]), self.outcome(q, found[:-1]))
        self.assertEqual(len(apart(q, p)), len(found))
        return len(found)

    def test_the_same(self):
        for house in (HOUSE, BACK, House(0, "all"), *FULL):
            twin = House(house.depth, house.check, house.rows + house.rows)
            self.assertIsNone(self.length(house, twin))
            self.assertIsNone(self.length(house, house))

    def test_a_row_that_does_not_count(self):
        self.assertIsNone(self.length(HOUSE, House.read(HOUSE_TEXT + "\nfirst open part there")))
        self.assertIsNone(self.length(HOUSE, House.read(HOUSE_TEXT + "\nnew open part there")))
        self.assertIsNone(self.length(HOUSE, House.read(HOUSE_TEXT + "\nnew shut right now")))

    def test_the_open_month_is_one_place(self):
        for kind, deed in itertools.product(KINDS, DEEDS):
            if deed != "right" or kind in ("first", "new"):
                others = [row for row in FULL[0].rows if (row.kind, row.state, row.deed) != (kind, "open", deed)]
                self.assertIsNone(self.length(FULL[0], House(4, "left", [*others, Let(kind, "open", deed, "there")])))

    def test_without_depth_nothing_else_is_seen(self):
        for p, q in itertools.product((House(0, "all"), House(0, "left"), full_house(0, "all", "now"), House(3, "left"),
                                       full_house(0, "left", "there")), repeat=2):
            self.assertIsNone(self.length(p, q))

    def test_each_row_is_seen(self):
        first = {"first": 1, "new": 2, "minus": 2, "plus": 3}
        for kind, state, deed in itertools.product(KINDS, STATES, DEEDS):
            if deed != "right" or kind in ("first", "new"):
                others = [row for row in FULL[0].rows if (row.kind, row.state, row.deed) != (kind, state, deed)]
                many = first[kind] + (state == "shut") + 1
                self.assertEqual(self.length(FULL[0], House(4, "left", others)), many, (kind, state, deed))
                if state == "shut":
                    other = House(4, "left", [*others, Let(kind, state, deed, "there")])
                    self.assertEqual(self.length(FULL[0], other), many, (kind, state, deed))

    def test_depths(self):
        for p, q in itertools.combinations(range(5), 2):
            houses = full_house(p, "all", "there"), full_house(q, "all", "there")
            self.assertEqual(self.length(*houses), p + 2)
        # The second house lets no more by its depth.
        self.assertIsNone(self.length(house_of(1, "all", "first open part now"), house_of(4, "all", "first open part now")))

    def test_checks(self):
        for depth, many in ((0, None), (1, None), (2, None), (3, 5), (4, 5)):
            for place in ("now", "there"):
                self.assertEqual(self.length(full_house(depth, "left", place), full_house(depth, "all", place)), many)
        text = HOUSE_TEXT.replace("check left", "check all")
        self.assertEqual(self.length(HOUSE, House.read(text)), 5)
        # The entry two targets above is never taken back again behind the one that stands for it.
        rows = ("first open part now", "minus shut part now", "plus open part now")
        self.assertIsNone(self.length(house_of(3, "left", *rows), house_of(3, "all", *rows)))
        self.assertEqual(self.length(house_of(4, "left", *rows), house_of(4, "all", *rows)), 8)

    def test_examples_of_the_document(self):
        self.assertEqual(self.length(HOUSE, BACK), 3)

    def test_by_parameter_names(self):
        self.assertIs(same(p=HOUSE, q=BACK), False)
        self.assertEqual(len(apart(p=HOUSE, q=BACK)), 3)
        self.assertIsNone(apart(p=HOUSE, q=HOUSE))


class AgainstAllShortHistories(unittest.TestCase):
    def changed_rows(self, chance, rows):
        """The rows of a report that is a little different, perhaps."""
        other = some_report(chance)
        return {kind: other.get(kind, (0, "own")) if chance.random() < 0.3 else told for kind, told in rows.items()}

    def check_reports(self, house, pairs, kept, moves, most):
        unlike, straying, many = {}, set(), 0
        for triples in levels(lambda state, told: moves_let(house, state, told), moves, most):
            many += 1
            for _, _, later in triples:
                told = Told(later[0])
                straying |= told.straying(kept)
                for at, (r, s) in enumerate(pairs):
                    if at not in unlike and told.figures(r) != told.figures(s):
                        unlike[at] = many
        for at, (r, s) in enumerate(pairs):
            history = parting(house, report_of(r), report_of(s))
            why = (str(house), r, s, str(history))
            self.assertIs(alike(house, report_of(r), report_of(s)), history is None, why)
            self.assertEqual(unlike.get(at), len(history) if history is not None and len(history) <= many else None, why)
            if history is not None:
                told = Told(states_of(house, history)[-1][0])
                self.assertNotEqual(told.figures(r), told.figures(s), why)
        asked = needed(house, report_of(kept))
        self.assertEqual(asked, tuple(kind for kind in KINDS if kind in asked))
        self.assertLessEqual(straying, set(asked))
        return straying == set(asked)

    def test_reports(self):
        fitting = 0
        for chance in chances(40):
            house, rows = some_house(chance), [some_report(chance) for _ in range(3)]
            fitting += self.check_reports(house, [(r, self.changed_rows(chance, r)) for r in rows], rows[0], 5, 800)
        # What is needed may come of longer histories alone, but rarely.
        self.assertGreaterEqual(fitting, 38)

    def changed_house(self, chance, house):
        """A house that is a little different, perhaps."""
        rows = list(house.rows)
        for at, row in enumerate(house.rows):
            if chance.random() < 1 / len(house.rows):
                rows[at] = Let(row.kind, row.state, row.deed, "now" if row.place == "there" else "there")
        if rows and chance.random() < 0.3:
            del rows[chance.randrange(len(rows))]
        check = chance.choice(("left", "all"))
        return House(house.depth if chance.random() < 0.8 else chance.randrange(5), check, rows)

    def check_houses(self, p, q, moves, most):
        unlike, many = None, 0

        def shared(state, told):
            mine, others = moves_let(p, state, told), moves_let(q, state, told)
            differing.append(mine != others)
            return mine

        differing = []
        for _ in levels(shared, moves, most):
            many += 1
            if any(differing):
                unlike = many
                break
        history = apart(p, q)
        why = (str(p), str(q), str(history))
        self.assertIs(same(p, q), history is None, why)
        self.assertEqual(unlike, len(history) if history is not None and len(history) <= many else None, why)
        if history is not None:
            self.assertNotEqual(states_of(p, history), states_of(q, history), why)
            self.assertEqual(states_of(p, history[:-1]), states_of(q, history[:-1]), why)

    def test_houses(self):
        for chance in chances(60, 500):
            house = some_house(chance)
            self.check_houses(house, self.changed_house(chance, house), 5, 1500)


if __name__ == "__main__":
    unittest.main()
