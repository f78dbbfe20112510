"""[7], [10], [11]: entries, what each move does, and the book behind a history."""

import copy
import doctest
import itertools
import random
import unittest

from contrabooks.books import Book, Entry, play
from contrabooks.errors import NoEntry, Refused
from contrabooks.houses import House, Let
from contrabooks.moves import History
from tests.model import Model
from tests.values import DEEDS, HOUSE_TEXT, KINDS, STATES, any_values, full_house

# The example under [11], as it stands in the document.
EXAMPLE = """
    >>> from contrabooks.books import play
    >>> from contrabooks.moves import History
    >>> book = play(house, History.read("begin 5; take 0 by 2; take 1; shut; take 0; begin 4"))
    >>> [(book[at].month, book[at].amount, book[at].target, book.kind_of(at), book.left_of(at)) for at in range(5)]
    [(0, 5, None, 'first', 0), (0, 2, 0, 'minus', 0), (0, 2, 1, 'plus', 2), (1, 5, 0, 'minus', 5), (1, 4, None, 'first', 4)]
"""
HOUSE = House.read(HOUSE_TEXT)
NOW = full_house(4, "left", "now")
ALL = full_house(4, "all", "now")
THERE = full_house(4, "left", "there")


def played(house, text):
    return play(house, History.read(text))


def told(book):
    """The entries of a book as tuples."""
    return [(entry.month, entry.amount, entry.target, entry.old) for entry in book.entries]


class Playing(unittest.TestCase):
    def refused(self, house, text, at=None):
        """The last move is refused, or the one with a number."""
        history = History.read(text)
        with self.assertRaises(Refused, msg=text) as caught:
            play(house, history)
        self.assertEqual(caught.exception.at, len(history) - 1 if at is None else at, text)

    def let(self, house, text, *last):
        """All moves are let, and the last entries are these."""
        found = told(played(house, text))
        self.assertEqual(found[len(found) - len(last):], list(last), text)

    def test_no_moves(self):
        book = play(HOUSE, History())
        self.assertIsInstance(book, Book)
        self.assertEqual((book.entries, book.month, len(book)), ((), 0, 0))
        self.assertEqual(play(House(0, "all"), History()), book)

    def test_by_parameter_names(self):
        self.assertEqual(len(play(history=History.read("begin 1"), house=HOUSE)), 1)

    def test_begin_and_shut(self):
        book = played(House(0, "all"), "begin 3; shut; begin 4; begin 5; shut; shut; begin 1000000000000; shut")
        self.assertEqual(told(book), [(0, 3, None, None), (1, 4, None, None), (1, 5, None, None),
                                      (3, 10 ** 12, None, None)])
        self.assertEqual(book.month, 4)
        self.assertIsInstance(book.entries, tuple)
        self.assertTrue(all(isinstance(entry, Entry) for entry in book.entries))

    def test_take_a_part_and_the_whole(self):
        self.let(NOW, "begin 5; take 0 by 2", (0, 5, None, None), (0, 2, 0, None))
        self.let(NOW, "begin 5; take 0", (0, 5, None, None), (0, 5, 0, None))
        self.let(NOW, "begin 5; take 0 by 2; take 0", (0, 3, 0, None))
        self.let(NOW, "begin 5; take 0 by 2; take 1 by 1; take 0", (0, 4, 0, None))
        self.let(NOW, "begin 5; take 0 by 5", (0, 5, 0, None))
        self.let(NOW, "begin 5; take 0 by 2; take 0 by 3", (0, 3, 0, None))

    def test_take_an_entry_that_is_none(self):
        self.refused(NOW, "take 0")
        self.refused(NOW, "take 0 by 1; begin 1", 0)
        self.refused(NOW, "begin 5; take 1")
        self.refused(NOW, "begin 5; take 1 by 1")
        self.refused(NOW, "begin 5; take 1000000000000 by 1")
        self.refused(NOW, "begin 5; take 1; begin 5", 1)
        self.refused(NOW, "right 0 to 5")
        self.refused(NOW, "begin 5; right 1 to 5")
        self.refused(NOW, "shut; shut; take 0")

    def test_depth(self):
        texts = ["begin 1", "take 0", "take 1", "take 2", "take 3", "take 4"]
        for depth in range(5):
            house = full_house(depth, "all", "now")
            self.assertEqual(len(played(house, "; ".join(texts[:depth + 1]))), depth + 1)
            self.refused(house, "; ".join(texts[:depth + 2]))
            self.refused(house, "; ".join(texts[:depth + 1]) + f"; take {depth} by 1")

    def test_nothing_left(self):
        self.refused(NOW, "begin 5; take 0; take 0")
        self.refused(NOW, "begin 5; take 0 by 5; take 0 by 1")
        self.refused(NOW, "begin 5; take 0 by 2; take 0 by 3; take 0")
        self.let(NOW, "begin 5; take 0; take 1 by 1; take 0 by 1", (0, 1, 0, None))

    def test_less_than_nothing_left(self):
        over = "begin 1; take 0 by 1; take 1; take 0 by 1; take 2 by 1"
        book = played(HOUSE, over)
        self.assertEqual([book.left_of(at) for at in range(5)], [-1, 1, 0, 1, 1])
        self.refused(NOW, over + "; take 0")
        self.refused(NOW, over + "; take 0 by 1")

    def test_more_than_is_left(self):
        self.refused(NOW, "begin 5; take 0 by 6")
        self.refused(NOW, "begin 5; take 0 by 2; take 0 by 4")
        self.refused(NOW, "begin 5; take 0 by 2; take 1 by 3")
        self.refused(ALL, "begin 1000000000000; take 0 by 999999999999; take 0 by 2")
        self.let(ALL, "begin 1000000000000; take 0 by 999999999999; take 0 by 1", (0, 1, 0, None))

    def test_check_all(self):
        text = "begin 5; take 0; take 1; take 0 by 3"
        for move in ("take 2", "take 2 by 3", "take 2 by 5"):
            self.refused(ALL, f"{text}; {move}")
            self.assertEqual(len(played(NOW, f"{text}; {move}")), 5)
        for move in ("take 2 by 1", "take 2 by 2"):
            self.assertEqual(len(played(ALL, f"{text}; {move}")), 5)
        self.let(ALL, "begin 5; take 0; take 1; take 2", (0, 5, 2, None))
        self.let(ALL, "begin 5; take 0; take 1 by 2; take 2", (0, 2, 2, None))

    def test_check_all_looks_two_targets_above(self):
        self.assertEqual(len(played(ALL, "begin 5; take 0; take 1; take 2; take 3")), 5)
        text = "begin 5; take 0; take 1; take 2; take 1 by 4"
        self.refused(ALL, text + "; take 3")
        self.refused(ALL, text + "; take 3 by 2")
        self.let(ALL, text + "; take 3 by 1", (0, 1, 3, None))
        self.let(NOW, text + "; take 3", (0, 5, 3, None))

    def test_kind_state_and_deed_of_the_row(self):
        ways = {
            "first": ("begin 4", 0), "new": ("begin 1; right 0 to 4", 2),
            "minus": ("begin 4; take 0", 1), "plus": ("begin 4; take 0; take 1", 2),
        }
        needed = [Let("first", "open", "right", "now"), Let("first", "open", "whole", "now"),
                  Let("minus", "open", "whole", "now")]
        for kind, state, deed in itertools.product(KINDS, STATES, DEEDS):
            if deed == "right" and kind in ("minus", "plus"):
                continue
            text, at = ways[kind]
            text += "; shut" if state == "shut" else ""
            move = {"whole": f"take {at}", "part": f"take {at} by 4", "right": f"right {at} to 9"}[deed]
            own = Let(kind, state, deed, "now")
            rest = [row for row in NOW.rows if row != own]
            self.refused(House(4, "left", rest), f"{text}; {move}")
            self.assertEqual(len(played(House(4, "left", [own] + needed), f"{text}; {move}")),
                             at + (3 if deed == "right" else 2))

    def test_put_right_needs_a_first_or_new_one(self):
        for house in (NOW, ALL, THERE):
            self.refused(house, "begin 5; take 0; right 1 to 2")
            self.refused(house, "begin 5; take 0 by 2; take 1; right 2 to 2")
            self.let(house, "begin 5; right 0 to 7; right 2 to 9", (0, 7, 2, None), (0, 9, None, 2))

    def test_put_right(self):
        self.let(NOW, "begin 5; right 0 to 7", (0, 5, None, None), (0, 5, 0, None), (0, 7, None, 0))
        self.let(NOW, "begin 5; shut; right 0 to 1000000000000", (1, 5, 0, None), (1, 10 ** 12, None, 0))
        self.let(THERE, "begin 5; shut; right 0 to 1", (0, 5, None, None), (0, 5, 0, None), (0, 1, None, 0))
        self.let(full_house(1, "all", "now"), "begin 5; right 0 to 7; right 2 to 8", (0, 7, 2, None), (0, 8, None, 2))

    def test_put_right_twice(self):
        self.refused(NOW, "begin 5; right 0 to 7; right 0 to 8")
        self.refused(NOW, "begin 5; take 0; right 0 to 8")
        self.refused(NOW, "begin 5; take 0 by 1; right 0 to 8")
        self.refused(NOW, "begin 5; take 0; take 1; right 0 to 8")
        self.refused(NOW, "begin 5; right 0 to 7; right 2 to 8; right 2 to 9")

    def test_put_right_with_depth_0(self):
        self.refused(House(0, "left", NOW.rows), "begin 5; right 0 to 7")
        self.assertEqual(len(played(House(1, "left", NOW.rows), "begin 5; right 0 to 7")), 3)

    def test_take_a_right_and_a_new_one_back(self):
        self.let(NOW, "begin 5; right 0 to 7; take 1 by 2; take 2 by 7", (0, 2, 1, None), (0, 7, 2, None))
        self.let(NOW, "begin 5; right 0 to 7; take 1; take 0", (0, 5, 1, None), (0, 5, 0, None))
        self.refused(NOW, "begin 5; right 0 to 7; take 0")

    def test_months(self):
        self.let(NOW, "begin 5; shut; shut; take 0 by 2; take 1", (2, 2, 0, None), (2, 2, 1, None))
        self.let(THERE, "begin 5; shut; shut; take 0 by 2; take 1", (0, 2, 0, None), (0, 2, 1, None))
        self.let(THERE, "shut; begin 5; shut; shut; begin 6; take 0; take 1",
                 (1, 5, None, None), (3, 6, None, None), (1, 5, 0, None), (3, 6, 1, None))

    def test_open_and_shut_rows(self):
        house = House(2, "left", [Let("first", "open", "part", "now"), Let("first", "shut", "part", "there"),
                                  Let("minus", "shut", "part", "now")])
        self.let(house, "begin 5; take 0 by 1; shut; take 0 by 1; take 1 by 1; take 2 by 1",
                 (0, 1, 0, None), (0, 1, 0, None), (1, 1, 1, None), (1, 1, 2, None))
        self.refused(house, "begin 5; take 0 by 1; take 1 by 1")
        self.refused(house, "begin 5; take 0")

    def test_first_of_several_rows_counts(self):
        house = House(1, "left", [Let("first", "shut", "part", "there"), Let("first", "shut", "part", "now")])
        self.let(house, "begin 5; shut; take 0 by 1", (0, 1, 0, None))
        self.let(house.without([0]), "begin 5; shut; take 0 by 1", (1, 1, 0, None))

    def test_first_refused_move_is_told(self):
        self.refused(NOW, "begin 5; take 0; take 0; take 9; begin 5", 2)
        self.refused(House(0, "left"), "begin 5; shut; take 0; take 0", 2)
        self.refused(House(4, "left"), "take 0; take 0", 0)

    def test_arguments_stay_the_same(self):
        history = History.read("begin 5; take 0 by 2")
        book = play(HOUSE, history)
        self.assertEqual(str(history), "begin 5; take 0 by 2")
        self.assertEqual(str(HOUSE), HOUSE_TEXT)
        play(HOUSE, history[:1] + history[:1])
        self.assertEqual(play(HOUSE, history), book)

    def test_example(self):
        # The house is that of the overview.
        example = doctest.DocTestParser().get_doctest(EXAMPLE, {"house": HOUSE}, "[11]", None, None)
        results = doctest.DocTestRunner(verbose=False).run(example)
        self.assertEqual((results.attempted, results.failed), (4, 0))

    def test_long_histories(self):
        text = "; ".join(["begin 1000000000000"] + ["take 0 by 1"] * 39)
        book = played(NOW, text)
        self.assertEqual(book.left_of(0), 10 ** 12 - 39)
        text = "; ".join(["begin 1"] + [f"right {2 * at} to {at + 2}" for at in range(39)])
        book = played(ALL, text)
        self.assertEqual((len(book), book.deed_of(78), book.top_of(77), book.left_of(78)), (79, 0, 76, 40))
        text = "; ".join(["begin 1000000000000000", "shut"] + ["take 0 by 1000000000000"] * 100)
        self.assertEqual(played(NOW, text).left_of(0), 900 * 10 ** 12)


class Books(unittest.TestCase):
    TEXT = "begin 5; take 0 by 2; take 1 by 1; take 2; take 3; begin 3; right 5 to 6; take 7 by 2; right 6 to 1"

    def test_kinds_and_depths(self):
        book = played(NOW, "begin 5; take 0; take 1; take 2; take 3; begin 3; right 5 to 6; take 6; take 7")
        kinds = ["first", "minus", "plus", "minus", "plus", "first", "minus", "new", "plus", "minus"]
        self.assertEqual([book.kind_of(at) for at in range(10)], kinds)
        self.assertEqual([book.depth_of(at) for at in range(10)], [0, 1, 2, 3, 4, 0, 1, 0, 2, 1])

    def test_tops_and_deeds(self):
        text = "begin 5; begin 3; right 1 to 4; right 3 to 6; take 5; take 6; take 2; take 0; take 4"
        book = played(NOW, text)
        self.assertEqual(told(book), [
            (0, 5, None, None), (0, 3, None, None), (0, 3, 1, None), (0, 4, None, 1), (0, 4, 3, None),
            (0, 6, None, 3), (0, 6, 5, None), (0, 6, 6, None), (0, 3, 2, None), (0, 5, 0, None), (0, 4, 4, None)])
        self.assertEqual([book.top_of(at) for at in range(11)], [0, 1, 1, 3, 3, 5, 5, 5, 1, 0, 3])
        self.assertEqual([book.deed_of(at) for at in range(11)], [0, 1, 1, 1, 1, 1, 1, 1, 1, 0, 1])
        self.assertEqual([book.left_of(at) for at in range(11)], [0, 3, 0, 4, 0, 6, 0, 6, 3, 5, 4])

    def test_by_parameter_names(self):
        book = played(HOUSE, "begin 5; take 0 by 2")
        self.assertEqual((book.left_of(at=0), book.depth_of(at=1), book.kind_of(at=1)), (3, 1, "minus"))
        self.assertEqual((book.top_of(at=1), book.deed_of(at=1)), (0, 0))

    def test_no_entry(self):
        for book in (played(HOUSE, ""), played(HOUSE, "shut"), played(HOUSE, "begin 5; take 0 by 2; take 0 by 1")):
            many = len(book.entries)
            for at in (-1, -2, -many, -many - 1, many, many + 1, 10 ** 12, -(10 ** 30), 10 ** 30):
                if 0 <= at < many:
                    continue
                for ask in (book.left_of, book.depth_of, book.kind_of, book.top_of, book.deed_of, lambda at: book[at]):
                    with self.assertRaises(NoEntry) as caught:
                        ask(at)
                    self.assertEqual(caught.exception.at, at)

    def test_len_and_index(self):
        book = played(NOW, self.TEXT.rpartition("; ")[0])
        self.assertEqual(len(book), 9)
        self.assertEqual(len(book.entries), 9)
        for at in range(9):
            self.assertIs(book[at], book.entries[at])

    def test_equal_entries(self):
        book = played(NOW, "begin 5; begin 5; begin 6; shut; begin 5; take 0; take 1; right 2 to 5; right 3 to 5")
        entries = book.entries
        for p, q in itertools.product(entries, repeat=2):
            same = (p.month, p.amount, p.target, p.old) == (q.month, q.amount, q.target, q.old)
            self.assertIs(p == q, same)
            self.assertIs(p != q, not same)
        self.assertTrue(entries[0] == entries[1])
        self.assertTrue(entries[0] == played(NOW, "begin 5")[0])

    def test_equal_entries_need_all_four(self):
        texts = ["begin 5", "shut; begin 5", "begin 6", "begin 4; right 0 to 5", "begin 5; take 0",
                 "begin 4; begin 4; right 1 to 5", "begin 5; begin 5; take 1"]
        last = [played(NOW, text).entries[-1] for text in texts]
        for p, q in itertools.combinations(last, 2):
            self.assertIs(p == q, False)
        for entry in last:
            self.assertIs(entry == copy.copy(entry), True)

    def test_equal_books(self):
        books = [played(NOW, text) for text in ("", "shut", "begin 5", "begin 5; shut", "shut; begin 5", "begin 6",
                                                "begin 5; begin 5", "begin 5; take 0", "begin 5; right 0 to 5",
                                                "begin 5; take 0 by 4")]
        for (at, p), (other, q) in itertools.product(enumerate(books), repeat=2):
            self.assertIs(p == q, at == other)
            self.assertIs(p != q, at != other)
        self.assertIs(played(NOW, "begin 5; take 0") == played(HOUSE, "begin 5; take 0 by 5"), True)
        self.assertIs(played(NOW, "begin 5; shut; begin 5") == played(NOW, "begin 5; begin 5; shut"), False)
        self.assertIs(played(THERE, "begin 5; shut; take 0") == played(NOW, "begin 5; take 0; shut"), True)

    def test_equal_to_nothing_of_another_class(self):
        book = played(HOUSE, "begin 5; take 0 by 2")
        for value in any_values() + [book.entries, list(book.entries), (book.entries, book.month), (0, 5, None, None)]:
            if not isinstance(value, Book):
                self.assertIs(book == value, False)
                self.assertIs(value == book, False)
            if not isinstance(value, Entry):
                self.assertIs(book[0] == value, False)
                self.assertIs(value == book[0], False)

    def test_not_iterable(self):
        book = played(HOUSE, "begin 5; take 0 by 2")
        for thing in (book, book[0], played(HOUSE, "")):
            with self.assertRaises(TypeError):
                iter(thing)
        with self.assertRaises(TypeError):
            list(book)


class AgainstTheModel(unittest.TestCase):
    def compare(self, book, model):
        numbers = range(len(model.entries))
        self.assertEqual(told(book), model.entries)
        self.assertEqual(book.month, model.month)
        self.assertEqual([book.left_of(at) for at in numbers], [model.left(at) for at in numbers])
        self.assertEqual([book.depth_of(at) for at in numbers], [model.depth(at) for at in numbers])
        self.assertEqual([book.kind_of(at) for at in numbers], [model.kind(at) for at in numbers])
        self.assertEqual([book.top_of(at) for at in numbers], [model.top(at) for at in numbers])
        self.assertEqual([book.deed_of(at) for at in numbers], [model.deed(at) for at in numbers])
        for at in numbers:
            signed = [model.sign(other) * model.entries[other][1] for other in numbers if model.top(other) == at]
            if book.top_of(at) == at:
                self.assertEqual(book.left_of(at), sum(signed))

    def step(self, house, texts, model, text):
        """Do one more move both ways; return whether it is let."""
        let = model.do(text)
        history = History.read("; ".join(texts + [text]))
        if let:
            self.compare(play(house, history), model)
        else:
            with self.assertRaises(Refused, msg=str(history)) as caught:
                play(house, history)
            self.assertEqual(caught.exception.at, len(texts))
        return let

    def moves(self, many, amounts):
        """The texts of all moves over some entries, and one that is none."""
        texts = ["shut"] + [f"begin {amount}" for amount in amounts]
        for at in range(many + 1):
            texts += [f"take {at}"] + [f"take {at} by {amount}" for amount in amounts] + [f"right {at} to 2"]
        return texts

    def search(self, house, texts, model, more):
        for text in self.moves(len(model.entries), (1, 2)) if more else ():
            further = copy.deepcopy(model)
            if self.step(house, texts, further, text):
                self.search(house, texts + [text], further, more - 1)

    def houses(self):
        chance = random.Random(7)
        rows = NOW.rows + THERE.rows
        yield from (HOUSE, NOW, ALL, THERE, full_house(4, "all", "there"), full_house(1, "left", "there"))
        for _ in range(30):
            chosen = chance.sample(rows, chance.randrange(8, 25))
            yield House(chance.randrange(1, 5), chance.choice(("left", "all")), chosen)

    def test_all_short_histories(self):
        for house in (HOUSE, NOW, ALL, THERE):
            self.search(house, [], Model(house), 3)

    def test_longer_histories(self):
        chance = random.Random(11)
        for house in self.houses():
            for _ in range(20):
                model, texts = Model(house), []
                for _ in range(60):
                    text = chance.choice(self.moves(len(model.entries), (1, 2, 3, 5)))
                    if self.step(house, texts, model, text):
                        texts.append(text)
                    if len(texts) == 14:
                        break


if __name__ == "__main__":
    unittest.main()
