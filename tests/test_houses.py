"""[8], [9]: rows and houses."""

import itertools
import unittest

from contrabooks.errors import InvalidHouse, InvalidRow, InvalidText, NoRow
from contrabooks.houses import House, Let
from contrabooks.moves import History, Shut
from tests.values import DEEDS, HOUSE_TEXT, KINDS, STATES, any_values, full_house

PLACES = ("now", "there")


def is_row(kind, state, deed, place):
    return (kind in KINDS and state in STATES and deed in DEEDS and place in PLACES
            and not (deed == "right" and kind in ("minus", "plus")))


def rows(*texts):
    return [Let(*text.split(" ")) for text in texts]


class Rows(unittest.TestCase):
    def wrong(self, word, *told, **named):
        with self.assertRaises(InvalidRow) as caught:
            Let(*told, **named)
        self.assertEqual(caught.exception.word, word)

    def test_all_rows(self):
        many = 0
        for words in itertools.product(KINDS, STATES, DEEDS, PLACES):
            if is_row(*words):
                row = Let(*words)
                many += 1
                self.assertEqual((row.kind, row.state, row.deed, row.place), words)
                self.assertEqual(str(row), " ".join(words))
            else:
                self.wrong("deed", *words)
        self.assertEqual(many, 40)

    def test_by_parameter_names(self):
        self.assertEqual(str(Let(place="now", deed="right", state="shut", kind="new")), "new shut right now")
        self.wrong("deed", place="here", deed="none", state="shut", kind="new")

    def test_any_values(self):
        for value in any_values() + ["right", "there", "new", "shut", "part", "minus", "First", "first ", "here"]:
            for at, word in enumerate(("kind", "state", "deed", "place")):
                words = ["first", "open", "whole", "now"]
                words[at] = value
                if isinstance(value, str) and is_row(*words):
                    self.assertEqual(str(Let(*words)), " ".join(words))
                else:
                    self.wrong(word, *words)

    def test_first_wrong_argument_is_told(self):
        self.wrong("kind", "x", "x", "x", "x")
        self.wrong("state", "first", "x", "x", "x")
        self.wrong("deed", "first", "open", "x", "x")
        self.wrong("place", "first", "open", "right", "x")
        self.wrong("deed", "minus", "open", "right", "x")
        self.wrong("state", "plus", None, "right", "now")
        self.wrong("kind", None, "open", "right", "now")

    def test_equal_if_texts_are(self):
        told = [words for words in itertools.product(KINDS, STATES, DEEDS, PLACES) if is_row(*words)]
        for words in told:
            for others in told:
                self.assertIs(Let(*words) == Let(*others), words == others)
                self.assertIs(Let(*words) != Let(*others), words != others)

    def test_equal_to_nothing_of_another_class(self):
        row = Let("first", "open", "whole", "now")
        for value in any_values() + [str(row), House(0, "left", [row]), [row], (row,)]:
            if not isinstance(value, Let):
                self.assertIs(row == value, False)
                self.assertIs(value == row, False)

    def test_not_iterable(self):
        with self.assertRaises(TypeError):
            iter(Let("first", "open", "whole", "now"))


class Houses(unittest.TestCase):
    def wrong(self, word, *told, **named):
        with self.assertRaises(InvalidHouse) as caught:
            House(*told, **named)
        self.assertEqual(caught.exception.word, word)

    def no_row(self, at, work):
        with self.assertRaises(NoRow) as caught:
            work()
        self.assertEqual(caught.exception.at, at)

    def test_attributes(self):
        told = rows("first open part now", "minus shut whole there")
        for value in (told, tuple(told)):
            house = House(3, "left", value)
            self.assertEqual((house.depth, house.check), (3, "left"))
            self.assertIsInstance(house.rows, tuple)
            self.assertEqual(house.rows, tuple(told))
        self.assertEqual(House(0, "all").rows, ())
        self.assertEqual(str(House(rows=told, check="all", depth=4)),
                         "depth 4\ncheck all\nfirst open part now\nminus shut whole there")

    def test_later_changes_of_the_argument(self):
        told = rows("first open part now")
        house = House(1, "left", told)
        told.clear()
        self.assertEqual(len(house), 1)

    def test_any_depth(self):
        for value in any_values() + [3, 4, 6, 1.0]:
            if isinstance(value, int) and not isinstance(value, bool) and 0 <= value <= 4:
                self.assertEqual(House(value, "left").depth, value)
            else:
                self.wrong("depth", value, "left")

    def test_edges_of_the_depth(self):
        self.assertEqual([House(depth, "all").depth for depth in range(5)], [0, 1, 2, 3, 4])
        for value in (-1, 5, True, False, None, "3"):
            self.wrong("depth", value, "all")

    def test_any_check(self):
        for value in any_values() + ["Left", "all ", "none"]:
            if value in ("left", "all"):
                self.assertEqual(House(1, value).check, value)
            else:
                self.wrong("check", 1, value)

    def test_any_rows(self):
        for value in any_values() + [rows("first open part now")]:
            if isinstance(value, (list, tuple)) and all(isinstance(item, Let) for item in value):
                self.assertEqual(House(1, "all", value).rows, tuple(value))
            else:
                self.wrong("rows", 1, "all", value)
        row = Let("first", "open", "part", "now")
        for value in (row, str(row), [str(row)], [row, None], [[row]], House(1, "all", [row]), None, {}, [Shut()]):
            self.wrong("rows", 1, "all", value)

    def test_first_wrong_argument_is_told(self):
        self.wrong("depth", 5, "none", None)
        self.wrong("check", 4, "none", None)
        self.wrong("rows", 4, "all", None)
        self.wrong("depth", rows=0, check=0, depth=None)

    def test_placed(self):
        house = House.read(HOUSE_TEXT)
        self.assertEqual(house.placed("first", "open", "part"), "now")
        self.assertIsNone(house.placed("first", "open", "whole"))
        self.assertIsNone(house.placed("first", "shut", "part"))
        self.assertIsNone(house.placed("minus", "open", "part"))
        self.assertIsNone(house.placed("minus", "open", "right"))
        self.assertIsNone(House(4, "all").placed("first", "open", "whole"))
        self.assertEqual(house.placed(deed="whole", state="shut", kind="first"), "now")

    def test_placed_everywhere(self):
        for place in PLACES:
            house = full_house(4, "left", place)
            for kind, state, deed in itertools.product(KINDS, STATES, DEEDS):
                expected = place if is_row(kind, state, deed, place) else None
                self.assertEqual(house.placed(kind, state, deed), expected)

    def test_first_of_several_rows_counts(self):
        house = House(1, "all", rows("new open part now", "first open part there", "first open part now",
                                     "first open part there", "new open part there"))
        self.assertEqual(house.placed("first", "open", "part"), "there")
        self.assertEqual(house.placed("new", "open", "part"), "now")
        self.assertEqual(house.without([1]).placed("first", "open", "part"), "now")
        self.assertEqual(len(house), 5)

    def test_len_and_index(self):
        house = House.read(HOUSE_TEXT)
        self.assertEqual(len(house), 4)
        self.assertEqual(len(House(3, "left")), 0)
        self.assertEqual([str(house[at]) for at in range(4)], HOUSE_TEXT.split("\n")[2:])
        self.assertIs(house[2], house.rows[2])
        for at in (-1, -4, -5, 4, 5, 10 ** 12, -(10 ** 30)):
            self.no_row(at, lambda at=at: house[at])
        for at in (0, 1, -1):
            self.no_row(at, lambda at=at: House(0, "all")[at])

    def test_without(self):
        house = House.read(HOUSE_TEXT)
        lines = HOUSE_TEXT.split("\n")
        for many in range(5):
            for numbers in itertools.permutations(range(4), many):
                expected = "\n".join(lines[:2] + [lines[2 + at] for at in range(4) if at not in numbers])
                self.assertEqual(str(house.without(numbers)), expected)
                self.assertEqual(str(house.without(list(numbers))), expected)
        self.assertEqual(house.without([]), house)
        self.assertEqual(house.without(numbers=()), house)
        self.assertEqual(str(house.without([1, 1, 1])), str(house.without([1])))
        self.assertEqual(str(house), HOUSE_TEXT)
        self.assertEqual(str(House(2, "all", house.rows).without([0, 1, 2, 3])), "depth 2\ncheck all")

    def test_without_a_row_that_is_none(self):
        house = House.read(HOUSE_TEXT)
        for numbers, at in (([4], 4), ([-1], -1), ([0, 7, -2], 7), ([0, -2, 7], -2), ([3, 4, 5], 4), ((5, 0), 5),
                            ([10 ** 12], 10 ** 12), ([0, 0, -4], -4)):
            self.no_row(at, lambda numbers=numbers: house.without(numbers))
        self.no_row(0, lambda: House(1, "all").without([0]))
        told = [1, 0]
        house.without(told)
        self.assertEqual(told, [1, 0])

    def test_both_depth_and_check(self):
        for p, q in itertools.product(range(5), repeat=2):
            for left, right in itertools.product(("left", "all"), repeat=2):
                both = House(p, left) & House(q, right)
                self.assertEqual(both.depth, min(p, q))
                self.assertEqual(both.check, "left" if (left, right) == ("left", "left") else "all")
                self.assertEqual(both.rows, ())

    def test_both_rows(self):
        p = House(3, "left", rows("plus open part now", "first shut whole now", "first open part there",
                                  "first open part now", "new open right now", "minus open whole now"))
        q = House(2, "left", rows("new open right now", "minus open whole there", "first open part there",
                                  "plus open part now", "plus shut part now", "first shut whole now"))
        expected = ("depth 2\ncheck left\nfirst open part there\nfirst shut whole now\nnew open right now\n"
                    "plus open part now")
        self.assertEqual(str(p & q), expected)
        self.assertEqual(str(q & p), expected)
        self.assertIsInstance(p & q, House)
        self.assertEqual(str(p)[:8], "depth 3\n")

    def test_both_counts_the_first_of_several_rows(self):
        p = House(1, "all", rows("first open part there", "first open part now"))
        q = House(1, "all", rows("first open part now", "first open part there"))
        self.assertEqual(len(p & q), 0)
        self.assertEqual(str(p & p), "depth 1\ncheck all\nfirst open part there")

    def test_both_orders_the_rows(self):
        for place in PLACES:
            full = full_house(4, "left", place)
            turned = House(4, "left", full.rows[::-1])
            expected = [" ".join(words) for words in itertools.product(KINDS, STATES, DEEDS, [place]) if is_row(*words)]
            self.assertEqual([str(row) for row in (turned & turned).rows], expected)
            self.assertEqual(turned & full, full)

    def test_both_in_place_makes_another_one(self):
        first = house = full_house(4, "left", "now")
        house &= House(2, "all")
        self.assertEqual(str(house), "depth 2\ncheck all")
        self.assertEqual(first, full_house(4, "left", "now"))

    def test_order_of_depth_and_check(self):
        for p, q in itertools.product(range(5), repeat=2):
            for left, right in itertools.product(("left", "all"), repeat=2):
                expected = p <= q and (right == "left" or left == "all")
                self.assertIs(House(p, left) <= House(q, right), expected)
                self.assertIs(House(q, right) >= House(p, left), expected)

    def test_order_of_rows(self):
        less = House(2, "left", rows("first open part now"))
        more = House(2, "left", rows("first shut part now", "first open part now"))
        other = House(2, "left", rows("first open part there", "first shut part now"))
        for p, q, expected in ((less, less, True), (less, more, True), (more, less, False), (less, other, False),
                               (other, less, False), (more, other, False), (House(2, "left"), less, True),
                               (less, House(2, "left"), False)):
            self.assertIs(p <= q, expected)
            self.assertIs(q >= p, expected)

    def test_order_counts_the_first_of_several_rows(self):
        one = House(1, "left", rows("first open part now"))
        two = House(1, "left", rows("first open part now", "first open part there"))
        turned = House(1, "left", rows("first open part there", "first open part now"))
        self.assertIs(two <= one, True)
        self.assertIs(one <= two, True)
        self.assertIs(one <= turned, False)
        self.assertIs(turned <= one, False)
        self.assertIs(two >= one, True)
        self.assertIs(turned >= one, False)

    def test_both_is_at_most_each(self):
        houses = [House.read(HOUSE_TEXT), full_house(4, "left", "now"), full_house(3, "all", "there"), House(0, "all"),
                  House(1, "all", rows("plus open part now", "first open part there"))]
        for p, q in itertools.product(houses, repeat=2):
            self.assertIs((p & q) <= p, True)
            self.assertIs((p & q) <= q, True)
            self.assertIs(q >= (p & q), True)

    def test_text(self):
        self.assertEqual(str(House(0, "all")), "depth 0\ncheck all")
        self.assertEqual(str(House.read(HOUSE_TEXT)), HOUSE_TEXT)
        twice = "depth 4\ncheck left\nnew open right there\nnew open right there"
        self.assertEqual(str(House(4, "left", rows("new open right there", "new open right there"))), twice)
        self.assertEqual(str(House.read(twice)), twice)

    def test_read(self):
        house = House.read(text=HOUSE_TEXT)
        self.assertIsInstance(house, House)
        self.assertEqual((house.depth, house.check, len(house.rows)), (3, "left", 4))
        self.assertEqual(House.read("depth 0\ncheck all"), House(0, "all"))
        for place in PLACES:
            for depth, check in itertools.product(range(5), ("left", "all")):
                full = full_house(depth, check, place)
                self.assertEqual(House.read(str(full)), full)

    def test_read_wrong_texts(self):
        good = HOUSE_TEXT.split("\n")
        for text, at in (
            ("", 0), ("\n", 0), ("x", 0), ("depth 3", 1), ("depth 3\n", 1), ("check left", 0), ("check left\ndepth 3", 0),
            ("depth 3\ndepth 3", 1), ("first open part now", 0), ("depth 3\nfirst open part now", 1),
            ("depth 3\nfirst open part now\ncheck left", 1), ("depth 3\ncheck left\n", 2), ("depth 3\ncheck left\n\n", 2),
            ("depth 3\n\ncheck left", 1), ("\ndepth 3\ncheck left", 0), (HOUSE_TEXT + "\n", 6),
            (HOUSE_TEXT + "\ncheck left", 6), (HOUSE_TEXT + "\ndepth 3", 6), (HOUSE_TEXT + "\nfirst open", 6),
            ("depth 3\ncheck left\nminus open right now", 2), ("x\ny\nz", 0), ("depth 3\ny\nz", 1),
            ("depth 3\ncheck left\nz\nz", 2), ("depth 3 ; check left", 0), ("depth 3; check left", 0),
        ):
            self.unread(text, at)
        for at in range(len(good)):
            self.unread("\n".join(good[:at] + ["x"] + good[at + 1:]), at)
            self.unread("\n".join(good[:at] + ["", *good[at:]]), at)

    def test_read_lines_written_otherwise(self):
        good = HOUSE_TEXT.split("\n")
        for line in ("depth", "depth ", "depth 5", "depth -1", "depth 03", "depth 3 ", " depth 3", "depth  3", "Depth 3",
                     "depth three", "depth 3 4", "depth 00", "depth 33", "depth3", "3", "depth +3", "depth\t3"):
            self.unread("\n".join([line] + good[1:]), 0)
        for line in ("check", "check ", "check left ", " check left", "check  left", "check none", "Check left",
                     "check Left", "check left all", "left", "all", "check all left", "checkleft"):
            self.unread("\n".join([good[0], line] + good[2:]), 1)
        for line in ("first", "first open", "first open part", "open part now", "first part now", "first open now",
                     "first open part now now", "first open part now ", " first open part now", "first  open part now",
                     "first open  part now", "First open part now", "first open part Now", "open first part now",
                     "first open part then", "first open all now", "first closed part now", "last open part now",
                     "plus shut right there", "first open part now\t", "first,open,part,now"):
            for at in (2, 4, 6):
                self.unread("\n".join(good[:at] + [line] + good[at:]), at)

    def unread(self, text, at):
        with self.assertRaises(InvalidText, msg=repr(text)) as caught:
            House.read(text)
        self.assertEqual(caught.exception.at, at, repr(text))

    def test_equal(self):
        self.assertIs(House.read(HOUSE_TEXT) == House.read(HOUSE_TEXT), True)
        house = House.read(HOUSE_TEXT)
        self.assertIs(house == House(2, "left", house.rows), False)
        self.assertIs(house == House(3, "all", house.rows), False)
        self.assertIs(house == House(3, "left", house.rows[::-1]), False)
        self.assertIs(house == House(3, "left", house.rows + house.rows[-1:]), False)
        self.assertIs(house != house.without([0]), True)
        self.assertIs(house != house.without([]), False)

    def test_equal_to_nothing_of_another_class(self):
        for house in (House.read(HOUSE_TEXT), House(0, "all")):
            for value in any_values() + [str(house), house.rows, list(house.rows), History()]:
                if not isinstance(value, House):
                    self.assertIs(house == value, False)
                    self.assertIs(value == house, False)

    def test_not_iterable(self):
        for house in (House.read(HOUSE_TEXT), House(0, "all")):
            with self.assertRaises(TypeError):
                iter(house)
            with self.assertRaises(TypeError):
                tuple(house)

    def test_beyond_the_limits(self):
        many = House(4, "left", rows("first open part now", "plus shut whole there") * 40)
        self.assertEqual(House.read(str(many)), many)
        self.assertEqual(len(many & many), 2)
        self.assertEqual(len(many.without(list(range(80)))), 0)


if __name__ == "__main__":
    unittest.main()
