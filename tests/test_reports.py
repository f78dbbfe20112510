"""[12], [13], [14]: rows of reports, reports, figures."""

import itertools
import unittest

from contrabooks.books import play
from contrabooks.errors import InvalidReport, InvalidRow, InvalidText
from contrabooks.houses import House, Let
from contrabooks.moves import Begin, History, Shut
from contrabooks.reports import Count, Figures, Report
from tests.short import Told, chances, moves_let, report_of, some_house, some_report
from tests.values import HOUSE_TEXT, KINDS, any_values, full_house

WORDS = ("own", "target", "top", "deed")
WEIGHTS = (-1, 0, 1)


def is_whole(value):
    return isinstance(value, int) and value is not True and value is not False


def is_row(kind, weight, whose):
    return (isinstance(kind, str) and kind in KINDS and is_whole(weight) and weight in WEIGHTS
            and isinstance(whose, str) and whose in WORDS)


def counts(*texts):
    return list(Report.read("\n".join(texts)).rows)


class Rows(unittest.TestCase):
    def wrong(self, word, *told, **named):
        with self.assertRaises(InvalidRow) as caught:
            Count(*told, **named)
        self.assertEqual(caught.exception.word, word)

    def test_all_rows(self):
        for kind, weight, whose in itertools.product(KINDS, WEIGHTS, WORDS):
            row = Count(kind, weight, whose)
            self.assertEqual((row.kind, row.weight, row.whose), (kind, weight, whose))
            self.assertEqual(str(row), f"{kind} {weight} {whose}")
        self.assertEqual(str(Count("minus", -1, "deed")), "minus -1 deed")
        self.assertEqual(str(Count(whose="top", weight=0, kind="new")), "new 0 top")

    def test_any_values(self):
        others = [-2, 2, -1, "-1", "Own", "own ", "old", "target", "top", "deed", "minus", "now", Count("new", 1, "own"),
                  Report(), Figures(), [1], (1,), [-1, 0]]
        for value in any_values() + others:
            for at, word in enumerate(("kind", "weight", "whose")):
                words = ["minus", 1, "deed"]
                words[at] = value
                if is_row(*words):
                    self.assertEqual(str(Count(*words)), " ".join(str(part) for part in words))
                else:
                    self.wrong(word, *words)

    def test_true_is_not_1(self):
        self.wrong("weight", "first", True, "own")
        self.wrong("weight", "first", False, "own")

    def test_first_wrong_argument_is_told(self):
        self.wrong("kind", "x", "x", "x")
        self.wrong("weight", "first", "x", "x")
        self.wrong("whose", "first", 1, "x")
        self.wrong("weight", whose="x", weight=2, kind="plus")

    def test_equal_if_their_texts_are(self):
        rows = [Count(*words) for words in itertools.product(KINDS, WEIGHTS, WORDS)]
        for row, other in itertools.product(rows, rows):
            self.assertIs(row == other, str(row) == str(other))
            self.assertIs(row != other, str(row) != str(other))
        for value in any_values() + ["first 1 own", Let("first", "open", "whole", "now")]:
            self.assertIs(rows[0] == value, False)
            self.assertIs(value == rows[0], False)

    def test_not_iterable(self):
        with self.assertRaises(TypeError):
            iter(Count("first", 1, "own"))


class Reports(unittest.TestCase):
    def test_rows(self):
        rows = [Count("minus", -1, "deed"), Count("first", 1, "own")]
        report = Report(rows)
        rows.clear()
        self.assertEqual(report.rows, (Count("minus", -1, "deed"), Count("first", 1, "own")))
        self.assertIsInstance(report.rows, tuple)
        self.assertEqual(Report(rows=report.rows).rows, report.rows)
        self.assertEqual(Report().rows, ())
        self.assertEqual(Report([]).rows, ())

    def test_any_values(self):
        one, two = Count("first", 1, "own"), Count("first", 0, "top")
        wrong = [one, [one, two], (one, one), [one, None], [Let("first", "open", "whole", "now")], [[one]], ([one],),
                 "first 1 own", ["first 1 own"], Report(), [Report()], Figures(), {}, [one, True]]
        for value in any_values() + wrong:
            if value in ([], ()):
                self.assertEqual(Report(value).rows, ())
                continue
            with self.assertRaises(InvalidReport, msg=repr(value)) as caught:
                Report(value)
            self.assertEqual(caught.exception.word, "rows")

    def test_no_two_of_one_kind(self):
        four = [Count(kind, 1, "own") for kind in KINDS]
        self.assertEqual(len(Report(four).rows), 4)
        for row in four:
            with self.assertRaises(InvalidReport):
                Report(four + [Count(row.kind, -1, "deed")])

    def test_weights_and_months(self):
        report = Report.read("minus -1 deed\nfirst 0 top")
        told = [(report.weight_of(kind), report.month_of(kind)) for kind in KINDS]
        self.assertEqual(told, [(0, "top"), (0, "own"), (-1, "deed"), (0, "own")])
        self.assertEqual((report.weight_of(kind="minus"), report.month_of(kind="minus")), (-1, "deed"))
        for kind in KINDS:
            self.assertEqual((Report().weight_of(kind), Report().month_of(kind)), (0, "own"))

    def test_contrary(self):
        report = Report.read("minus -1 deed\nfirst 1 own\nplus 0 top")
        self.assertEqual(str(~report), "minus 1 deed\nfirst -1 own\nplus 0 top")
        self.assertEqual(str(~~report), str(report))
        self.assertEqual(str(report), "minus -1 deed\nfirst 1 own\nplus 0 top")
        self.assertEqual(str(~Report()), "")

    def test_texts(self):
        for many in range(5):
            for kinds in itertools.permutations(KINDS, many):
                text = "\n".join(f"{kind} {at - 1} {WORDS[at]}" if at < 3 else f"{kind} 1 deed"
                                 for at, kind in enumerate(kinds))
                report = Report.read(text)
                self.assertEqual(str(report), text)
                self.assertEqual([row.kind for row in report.rows], list(kinds))
        self.assertEqual(str(Report.read(text="")), "")

    def test_wrong_texts(self):
        for at, text in (
            (0, " "), (0, "\n"), (0, "first 1"), (0, "first 1 own "), (0, " first 1 own"), (0, "first  1 own"),
            (0, "first 1 own own"), (0, "first 01 own"), (0, "first +1 own"), (0, "first -0 own"), (0, "first 2 own"),
            (0, "first -2 own"), (0, "first True own"), (0, "first one own"), (0, "First 1 own"), (0, "first 1 now"),
            (0, "own 1 first"), (0, "first --1 own"), (0, "first - own"), (0, "first  own"), (0, "report"),
            (1, "first 1 own\n"), (1, "first 1 own\n\nminus 1 own"), (1, "first 1 own\nfirst 1 own"),
            (1, "first 1 own\nfirst 0 top\nx"), (2, "first 1 own\nminus 1 own\nfirst 1 own"),
            (1, "first 1 own\nx\nfirst 1 own"), (2, "first 1 own\nnew 1 own\nplus one own\nfirst 1 own"),
            (4, "first 1 own\nnew 1 own\nplus 1 own\nminus 1 own\nplus 1 own"),
        ):
            with self.assertRaises(InvalidText, msg=text) as caught:
                Report.read(text)
            self.assertEqual(caught.exception.at, at, text)

    def test_equal_where_the_weight_is_not_0(self):
        equal = (("", "first 0 own"), ("first 0 top", "first 0 deed"), ("first 1 own\nnew 0 top", "first 1 own"),
                 ("first 1 own\nnew 1 top", "new 1 top\nfirst 1 own"), ("plus 0 deed", "minus 0 target"))
        unlike = (("", "first 1 own"), ("first 1 own", "first -1 own"), ("first 1 top", "first 1 deed"),
                  ("minus 1 own", "plus 1 own"), ("new 1 own", "new 1 deed"), ("plus 1 own", "plus 1 target"),
                  ("minus -1 own\nnew 0 top", "minus -1 top\nnew 0 top"))
        for told, others in ((True, equal), (False, unlike)):
            for text, other in others:
                for one, two in ((text, other), (other, text)):
                    self.assertIs(Report.read(one) == Report.read(two), told, (one, two))
                    self.assertIs(Report.read(one) != Report.read(two), not told, (one, two))

    def test_equal_to_nothing_of_another_class(self):
        for report in (Report(), Report.read("first 1 own")):
            for value in any_values() + [report.rows, str(report), Figures(), Count("first", 1, "own")]:
                self.assertIs(report == value, False)
                self.assertIs(value == report, False)

    def test_not_iterable(self):
        report = Report.read("first 1 own")
        with self.assertRaises(TypeError):
            iter(report)
        with self.assertRaises(TypeError):
            list(report)
        with self.assertRaises(TypeError):
            Count("first", 1, "own") in report


class Making(unittest.TestCase):
    def test_pairs(self):
        pairs = [[2, 5], (0, -1), (2, -2), (7, 0), (3, 4), (3, -4)]
        figures = Figures(pairs)
        pairs.clear()
        self.assertEqual([figures[month] for month in range(9)], [-1, 0, 3, 0, 0, 0, 0, 0, 0])
        self.assertEqual((figures.months, figures.total, str(figures)), ((0, 2), 2, "0: -1, 2: 3"))
        self.assertEqual(Figures(pairs=((1, 2),))[1], 2)

    def test_none(self):
        for figures in (Figures(), Figures([]), Figures(()), Figures([(3, 0)]), Figures([(3, 1), (3, -1)])):
            self.assertEqual((figures[0], figures[3], figures.months, figures.total, str(figures)), (0, 0, (), 0, "-"))
            self.assertIs(bool(figures), False)
            self.assertIs(figures == Figures(), True)

    def test_total_0_and_yet_not_all(self):
        figures = Figures([(0, 1), (1, -1)])
        self.assertEqual((figures.total, bool(figures), str(figures)), (0, True, "0: 1, 1: -1"))
        self.assertIs(bool(Figures([(9, -1)])), True)

    def test_months_are_ascending(self):
        figures = Figures([(month, 1) for month in (10, 9, 2, 100, 0, 11, 10 ** 6)])
        self.assertEqual(figures.months, (0, 2, 9, 10, 11, 100, 10 ** 6))
        self.assertIsInstance(figures.months, tuple)
        self.assertEqual(str(Figures([(10, 1), (2, 1)])), "2: 1, 10: 1")
        self.assertEqual((figures[10 ** 6], figures[10 ** 6 - 1]), (1, 0))

    def test_large(self):
        figures = Figures([(month % 50, 10 ** 30) for month in range(2000)])
        self.assertEqual((figures[7], figures.total), (40 * 10 ** 30, 2000 * 10 ** 30))

    def test_not_iterable(self):
        figures = Figures([(0, 5), (1, 2)])
        for thing in (figures, Figures()):
            with self.assertRaises(TypeError):
                iter(thing)
            with self.assertRaises(TypeError):
                list(thing)
            with self.assertRaises(TypeError):
                5 in thing


class Reckoning(unittest.TestCase):
    def some(self):
        return [Figures(), Figures([(0, 5), (2, -1)]), Figures([(0, -5), (1, 3)]), Figures([(2, 1)]), Figures([(40, 7)])]

    def test_month_by_month(self):
        for f, g in itertools.product(self.some(), self.some()):
            for month in range(42):
                self.assertEqual((f + g)[month], f[month] + g[month])
                self.assertEqual((f - g)[month], f[month] - g[month])
            self.assertEqual((f + g).total, f.total + g.total)
            self.assertEqual((f + g).months, tuple(at for at in range(42) if f[at] + g[at]))
            self.assertIs(f == g, all(f[month] == g[month] for month in range(42)))
            self.assertIs(f != g, any(f[month] != g[month] for month in range(42)))
            self.assertIs(bool(f - g), f != g)

    def test_contrary_and_times(self):
        for f in self.some():
            for number in (-3, -1, 0, 1, 2, 10 ** 20):
                for month in range(42):
                    self.assertEqual(((-f)[month], (f * number)[month], (number * f)[month]),
                                     (-f[month], f[month] * number, f[month] * number))
                for figures in (-f, f * number, number * f):
                    self.assertIsInstance(figures, Figures)
                self.assertEqual((f * 0).months, ())
                self.assertIs(bool(number * f), bool(f) and number != 0)

    def test_nothing_else(self):
        f = Figures([(0, 5)])
        for value in any_values() + [Report(), Count("first", 1, "own"), {0: 5}, ((0, 5),), [(0, 5)]]:
            for reckon in (lambda: f + value, lambda: value + f, lambda: f - value, lambda: value - f):
                if not isinstance(value, Figures):
                    with self.assertRaises(TypeError, msg=repr(value)):
                        reckon()
            if not is_whole(value):
                for reckon in (lambda: f * value, lambda: value * f):
                    with self.assertRaises(TypeError, msg=repr(value)):
                        reckon()
        with self.assertRaises(TypeError):
            f * f
        self.assertEqual((str(f), str(f + f)), ("0: 5", "0: 10"))

    def test_in_place(self):
        f = g = Figures([(0, 5)])
        g += Figures([(0, 1)])
        self.assertEqual((str(f), str(g)), ("0: 5", "0: 6"))
        g -= f
        g *= 7
        self.assertEqual((str(f), str(g)), ("0: 5", "0: 7"))
        with self.assertRaises(TypeError):
            g += 1
        with self.assertRaises(TypeError):
            g *= True
        self.assertEqual(str(g), "0: 7")

    def test_equal_to_nothing_of_another_class(self):
        for figures in (Figures(), Figures([(0, 5)])):
            for value in any_values() + [Report(), str(figures), {}, {0: 5}, ((0, 5),)]:
                self.assertIs(figures == value, False)
                self.assertIs(value == figures, False)

    def test_what_is_told_is_true_or_false(self):
        f = Figures([(0, 5)])
        for value in (f == f, f != f, f == Figures(), Report() == Report(), Count("new", 1, "own") == 1):
            self.assertIsInstance(value, bool)


class Reporting(unittest.TestCase):
    def test_months_in_which_entries_count(self):
        house = full_house(4, "left", "now")
        # First in month 0, minus in 1, new in 1 (its deed in 0), minus of this in 2, plus in 3, minus in 4.
        book = play(house, History.read("begin 100; shut; right 0 to 10; shut; take 2; shut; take 3 by 4; shut; take 4 by 1"))
        for text, expected in (
            ("first 1 own", {0: 100}), ("first 1 target", {0: 100}), ("first 1 top", {0: 100}), ("first 1 deed", {0: 100}),
            ("new 1 own", {1: 10}), ("new 1 target", {1: 10}), ("new 1 top", {1: 10}), ("new 1 deed", {0: 10}),
            ("minus 1 own", {1: -100, 2: -10, 4: -1}), ("minus 1 target", {0: -100, 1: -10, 3: -1}),
            ("minus 1 top", {0: -100, 1: -11}), ("minus 1 deed", {0: -111}),
            ("plus 1 own", {3: 4}), ("plus 1 target", {2: 4}), ("plus 1 top", {1: 4}), ("plus 1 deed", {0: 4}),
            ("minus -1 deed", {0: 111}), ("plus -1 own\nnew -1 own", {1: -10, 3: -4}), ("minus 0 deed", {}), ("", {}),
            ("first 1 own\nnew 1 own\nminus 1 deed\nplus 1 target", {0: -11, 1: 10, 2: 4}),
        ):
            figures = Report.read(text)(book)
            self.assertEqual({month: figures[month] for month in range(6) if figures[month]}, expected, text)
            self.assertIsInstance(figures, Figures)
        self.assertEqual(Report.read("first 1 own")(book=book)[0], 100)

    def test_an_empty_book(self):
        report = Report.read("first 1 own\nminus 1 deed")
        for text in ("", "shut; shut"):
            self.assertEqual(str(report(play(House(0, "all"), History.read(text)))), "-")

    def test_contrary_report_has_contrary_figures(self):
        book = play(House.read(HOUSE_TEXT), History([Begin(5), Shut(), Begin(3)]))
        report = Report.read("first 1 own")
        self.assertEqual((~report)(book), -report(book))

    def test_against_the_words(self):
        for chance in chances(60):
            house, rows = some_house(chance), some_report(chance)
            state, texts = ((), 0), []
            for _ in range(20):
                text, state = chance.choice(list(moves_let(house, state, Told(state[0])).items()))
                texts.append(text)
            book = play(house, History.read("; ".join(texts)))
            figures, expected = report_of(rows)(book), Told(state[0]).figures(rows)
            self.assertEqual({month: figures[month] for month in range(22) if figures[month]}, expected)
            self.assertEqual((figures.total, list(figures.months)), (sum(expected.values()), sorted(expected)))


if __name__ == "__main__":
    unittest.main()
