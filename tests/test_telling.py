"""[24], [25]: the lines of a history, and all ways for some lines."""

import itertools
import unittest

from contrabooks.books import play
from contrabooks.errors import Refused
from contrabooks.houses import House
from contrabooks.moves import Begin, History, Right, Shut, Take
from contrabooks.telling import printed, ways
from tests.short import Told, chances, moves_let, some_house
from tests.values import HOUSE_TEXT, full_house

HOUSE = House.read(HOUSE_TEXT)
FULL = full_house(4, "left", "now")
FIRST = (-1, -1)


def house_of(depth, check, *rows):
    return House.read("\n".join([f"depth {depth}", f"check {check}", *rows]))


def lines_of(house, text):
    return printed(house, History.read(text))


def way_of(house, history):
    """The targets and olds of a history, with -1 for none."""
    return tuple(tuple(-1 if at is None else at for at in (entry.target, entry.old))
                 for entry in play(house, history).entries)


def lines_between(month, before, after):
    """The lines of the entries of a state that are not in the one before, by the words."""
    told = Told(after)
    return tuple((month, entry[0], -entry[1] if told.kind[at] == "minus" else entry[1])
                 for at, entry in enumerate(after) if at >= len(before))


def history_of(house, lines, way):
    """A history that has some lines in this way, or None; of the moves for one line each that is let is taken."""
    moves, month, at = [], 0, 0
    while at < len(lines):
        moves += [Shut()] * (lines[at][0] - month)
        month, target, amount = lines[at][0], way[at][0], abs(lines[at][2])
        if target == -1:
            choices = [Begin(amount)]
        elif at + 1 < len(way) and way[at + 1][1] == target:
            choices = [Right(target, lines[at + 1][2])]
        else:
            choices = [Take(target), Take(target, amount)]
        let = [move for move in choices if has_line(house, moves, move, lines[at])]
        if not let:
            return None
        moves.append(let[0])
        at += 2 if isinstance(let[0], Right) else 1
    return History(moves)


def has_line(house, moves, move, line):
    """Whether a move behind some others is let, and makes a line."""
    try:
        book = play(house, History([*moves, move]))
    except Refused:
        return False
    entry = book[len(play(house, History(moves)))]
    return (book.month, entry.month, entry.amount) == (line[0], line[1], abs(line[2]))


class Lines(unittest.TestCase):
    def test_lines(self):
        house = house_of(2, "left", "first open part now", "first shut whole now", "minus shut part there",
                         "first shut part there", "new open right now", "first open right now", "new shut right there")
        for text, expected in (
            ("", ()),
            ("shut; shut", ()),
            ("begin 5", ((0, 0, 5),)),
            ("shut; begin 5; shut", ((1, 1, 5),)),
            ("begin 5; take 0 by 2; shut; take 0", ((0, 0, 5), (0, 0, -2), (1, 1, -3))),
            ("begin 5; shut; take 0 by 2; shut; shut; take 1 by 2", ((0, 0, 5), (1, 0, -2), (3, 0, 2))),
            ("begin 5; right 0 to 7; shut; right 2 to 8", ((0, 0, 5), (0, 0, -5), (0, 0, 7), (1, 0, -7), (1, 0, 8))),
        ):
            self.assertEqual(lines_of(house, text), expected, text)

    def test_signs(self):
        house = full_house(4, "left", "now")
        text = "begin 9; take 0 by 8; take 1 by 7; take 2 by 6; take 3 by 5; right 0 to 1"
        with self.assertRaises(Refused):
            lines_of(house, text)
        self.assertEqual([line[2] for line in lines_of(house, text[:text.rindex(";")])], [9, -8, 7, -6, 5])

    def test_refused(self):
        for at, text in ((0, "take 0"), (2, "begin 1; shut; take 0 by 1; shut"), (1, "begin 1; right 0 to 1; begin 1")):
            with self.assertRaises(Refused) as caught:
                lines_of(HOUSE, text)
            self.assertEqual(caught.exception.at, at)

    def test_what_is_returned(self):
        history = History([Begin(2), Take(0, 1)])
        found = printed(house=HOUSE, history=history)
        self.assertIsInstance(found, tuple)
        self.assertTrue(all(isinstance(line, tuple) for line in found))
        self.assertEqual(history, History.read("begin 2; take 0 by 1"))


class Ways(unittest.TestCase):
    def test_examples_of_the_document(self):
        self.assertEqual(lines_of(HOUSE, "begin 2; shut; begin 2; take 1 by 2"), ((0, 0, 2), (1, 1, 2), (1, 1, -2)))
        found = ways(HOUSE, [(0, 0, 2), (1, 1, 2), (1, 1, -2)])
        self.assertEqual(found, ((FIRST, FIRST, (0, -1)), (FIRST, FIRST, (1, -1))))

    def test_no_lines(self):
        for house in (HOUSE, FULL, House(0, "all")):
            self.assertEqual(ways(house, []), ((),))
            self.assertEqual(ways(house, ()), ((),))

    def test_lines_that_cannot_come(self):
        for lines in (
            [(0, 0, -1)],
            [(0, 1, 1)],
            [(1, 0, 1)],
            [(1, 1, 1), (0, 0, 1)],
            [(0, 0, 1), (0, 0, -2)],
            [(0, 0, 1), (0, 0, -1), (0, 0, -1)],
            [(0, 0, 2), (0, 0, -1), (0, 0, -2)],
            [(0, 0, 2), (1, 0, -2)],
            [(0, 0, 2), (2, 1, -2)],
        ):
            self.assertEqual(ways(FULL, lines), (), lines)
            self.assertEqual(ways(FULL, tuple(lines) + ((9, 9, 1),)), (), lines)

    def test_only_first_entries(self):
        self.assertEqual(ways(House(0, "all"), [(3, 3, 5), (3, 3, 1), (9, 9, 10 ** 12)]), ((FIRST, FIRST, FIRST),))
        self.assertEqual(ways(House(0, "all"), [(10 ** 6, 10 ** 6, 1)]), ((FIRST,),))
        self.assertEqual(ways(House(0, "all"), [(0, 0, 1), (0, 0, -1)]), ())

    def test_the_last_line_may_oppose_several_entries(self):
        house = house_of(1, "left", "first open part now")
        lines = [(0, 0, 4), (0, 0, 2), (0, 0, 3), (0, 0, -3)]
        self.assertEqual(ways(house, lines), ((FIRST, FIRST, FIRST, (0, -1)), (FIRST, FIRST, FIRST, (2, -1))))

    def test_whole_or_a_part_that_is_all(self):
        lines = [(0, 0, 2), (0, 0, -2)]
        for row, month, found in (("first open whole now", 0, True), ("first open part now", 0, True),
                                  ("first shut part now", 0, False), ("first shut part now", 1, True),
                                  ("first shut whole now", 1, True), ("first shut whole there", 1, False)):
            told = [lines[0], (month, month, -2)]
            self.assertEqual(ways(house_of(1, "left", row), told), ((FIRST, (0, -1)),) if found else (), row)
        # Both rows let it: still it is one way.
        self.assertEqual(ways(house_of(1, "left", "first open whole now", "first open part now"), lines), ((FIRST, (0, -1)),))
        self.assertEqual(ways(house_of(1, "left", "first open whole now"), [(0, 0, 2), (0, 0, -1)]), ())

    def test_places(self):
        house = house_of(1, "left", "first shut whole there", "first shut part now")
        self.assertEqual(ways(house, [(0, 0, 2), (1, 0, -2)]), ((FIRST, (0, -1)),))
        self.assertEqual(ways(house, [(0, 0, 2), (1, 0, -1)]), ())
        self.assertEqual(ways(house, [(0, 0, 2), (1, 1, -2)]), ((FIRST, (0, -1)),))
        self.assertEqual(ways(house, [(0, 0, 2), (1, 1, -1)]), ((FIRST, (0, -1)),))
        # Only the first entry is shut, and of the month that is told.
        self.assertEqual(ways(house, [(0, 0, 2), (1, 1, 2), (2, 1, -2)]), ((FIRST, FIRST, (1, -1)),))

    def test_a_pair_put_right_or_not(self):
        house = house_of(1, "left", "first open right now", "first open whole now")
        lines = [(0, 0, 5), (0, 0, -5), (0, 0, 7)]
        first, right = (FIRST, (0, -1), FIRST), (FIRST, (0, -1), (-1, 0))
        self.assertEqual(ways(house, lines), (first, right))
        self.assertEqual(ways(house.without([0]), lines), (first,))
        self.assertEqual(ways(house.without([1]), lines), (right,))
        # The new entry stands right behind the one that opposes the old one, in the same months, for all of it.
        self.assertEqual(ways(house.without([1]), [(0, 0, 5), (0, 0, -5), (1, 1, 7)]), ())
        self.assertEqual(ways(house.without([1]), [(0, 0, 5), (0, 0, -5), (0, 0, 7), (0, 0, 7)]), (right + (FIRST,),))
        self.assertEqual(ways(house.without([1]), [(0, 0, 5), (0, 0, -5)]), ())
        self.assertEqual(ways(house.without([1]), [(0, 0, 5), (0, 0, -4), (0, 0, 7)]), ())
        self.assertEqual(ways(house.without([1]), [(0, 0, 5), (0, 0, -5), (0, 0, -7)]), ())

    def test_the_new_entry_of_a_pair_has_its_place(self):
        house = house_of(1, "left", "first shut right there")
        self.assertEqual(ways(house, [(0, 0, 5), (1, 0, -5), (1, 0, 7)]), ((FIRST, (0, -1), (-1, 0)),))
        self.assertEqual(ways(house, [(0, 0, 5), (1, 0, -5), (1, 1, 7)]), ())

    def test_a_pair_stands_between_two_other_ways(self):
        house = house_of(2, "left", "first open right now", "first open part now", "minus open part now")
        lines = [(0, 0, 5), (0, 0, -5), (0, 0, 5)]
        self.assertEqual(ways(house, lines), ((FIRST, (0, -1), FIRST), (FIRST, (0, -1), (-1, 0)), (FIRST, (0, -1), (1, -1))))

    def test_checks(self):
        lines = [(0, 0, 1), (0, 0, -1), (0, 0, 1), (0, 0, -1), (0, 0, -1)]
        over = (FIRST, (0, -1), (1, -1), (0, -1), (2, -1))
        for check in ("left", "all"):
            self.assertEqual(over in ways(full_house(3, check, "now"), lines), check == "left")

    def test_as_many_lines_as_may_be_passed_and_more(self):
        for many in (7, 8):
            lines = [(0, 0, 9)] + [(0, 0, -1), (0, 0, 1)] * 4
            found = ways(full_house(4, "left", "now"), lines[:many])
            self.assertEqual(list(found), sorted(set(found)))
            self.assertGreater(len(found), 100)
        self.assertEqual(ways(House(0, "left"), [(0, 0, 1)] * 12), ((FIRST,) * 12,))
        # More than ten lines: the numbers are compared as such.
        lines = [(0, 0, 2)] * 12 + [(0, 0, -2)]
        expected = tuple((FIRST,) * 12 + ((at, -1),) for at in range(12))
        self.assertEqual(ways(house_of(1, "all", "first open whole now"), lines), expected)

    def test_sequences(self):
        lines = [[0, 0, 2], [0, 0, -2]]
        expected = ((FIRST, (0, -1)),)
        for told in (lines, tuple(lines), [tuple(line) for line in lines], tuple(tuple(line) for line in lines)):
            self.assertEqual(ways(house=HOUSE, lines=told), expected)
            self.assertIsInstance(ways(HOUSE, told), tuple)
        self.assertEqual(lines, [[0, 0, 2], [0, 0, -2]])
        self.assertEqual(ways(HOUSE, lines), ways(HOUSE, lines))


class AgainstAllShortHistories(unittest.TestCase):
    def ways_found(self, house, amounts, moves):
        """A dict from the lines of all histories of at most so many moves to the ways that they have."""
        found = {}
        states = {(((), 0), ())}
        for _ in range(moves + 1):
            following = set()
            for (entries, month), lines in states:
                way = tuple(tuple(-1 if at is None else at for at in entry[2:]) for entry in entries)
                found.setdefault(lines, set()).add(way)
                for later in moves_let(house, (entries, month), Told(entries), amounts, 99).values():
                    following.add((later, lines + lines_between(month, entries, later[0])))
            states = following
        return found

    def check(self, house, moves, amounts=(1, 2)):
        several = 0
        for lines, found in self.ways_found(house, amounts, moves).items():
            # All histories with these lines were tried, if there was a move for each line and each shut.
            if lines and (len(lines) + lines[-1][0] > moves or max(abs(line[2]) for line in lines) > max(amounts)):
                self.assertLessEqual(found, set(ways(house, lines)), (str(house), lines))
                continue
            self.assertEqual(ways(house, lines), tuple(sorted(found)), (str(house), lines))
            several += len(found) > 1
        return several

    def test_some_houses(self):
        several = 0
        for chance in chances(12, 40):
            several += self.check(some_house(chance), 4)
        self.assertGreater(several, 50)

    def test_full_houses_and_few_rows(self):
        self.assertGreater(self.check(full_house(3, "left", "there"), 4, (1,)), 5)
        self.assertGreater(self.check(full_house(3, "all", "now"), 4, (1,)), 5)
        house = house_of(3, "left", "first open part now", "minus open whole now", "plus open whole now",
                         "first open right now")
        self.assertGreater(self.check(house, 5, (1,)), 5)
        self.check(HOUSE, 5, (1,))

    def test_lines_by_chance(self):
        # Most of these lines cannot come.
        found = 0
        lines = [(0, 0, 1), (0, 0, -1), (1, 0, 1), (1, 1, 1), (1, 0, -1), (1, 1, -1)]
        for chance in chances(6, 900):
            house = some_house(chance)
            histories = self.ways_found(house, (1,), 4)
            for told in itertools.product(lines, repeat=3):
                self.assertEqual(ways(house, told), tuple(sorted(histories.get(told, ()))), (str(house), told))
                found += told in histories
        self.assertGreater(found, 20)


class ThereAndBack(unittest.TestCase):
    def some_history(self, chance, house, many):
        """A history by chance, of at most so many entries."""
        state, texts = ((), 0), []
        for _ in range(2 * many):
            text, state = chance.choice(list(moves_let(house, state, Told(state[0])).items()))
            if len(state[0]) > many:
                break
            texts.append(text)
        return History.read("; ".join(texts))

    def test_a_way_is_among_those_of_its_lines_and_each_has_these_lines(self):
        many = 0
        for chance in chances(80, 200):
            house = some_house(chance)
            history = self.some_history(chance, house, 7)
            lines = printed(house, history)
            found = ways(house, lines)
            why = (str(house), str(history), found)
            self.assertIn(way_of(house, history), found, why)
            self.assertEqual(list(found), sorted(set(found)), why)
            for way in found:
                other = history_of(house, lines, way)
                self.assertIsNotNone(other, why)
                self.assertEqual((printed(house, other), way_of(house, other)), (lines, way), why)
            many += len(found) > 1
        self.assertGreater(many, 20)


if __name__ == "__main__":
    unittest.main()
