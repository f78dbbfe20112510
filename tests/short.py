"""All short histories with small amounts, by the words of the document: what the decisions are compared with."""

import random

from contrabooks.houses import House, Let
from contrabooks.reports import Count, Report
from tests.values import DEEDS, KINDS, STATES

WORDS = ("own", "target", "top", "deed")


class Told:
    """What is told of the entries, tuples (month, amount, target, old), that are there at a moment."""

    def __init__(self, entries):
        self.entries = entries
        self.depth, self.top, self.deed, self.kind = [], [], [], []
        self.left = [entry[1] for entry in entries]
        for at, (_, _, target, old) in enumerate(entries):
            self.depth.append(0 if target is None else self.depth[target] + 1)
            self.top.append(at if target is None else self.top[target])
            self.deed.append(self.deed[target] if target is not None else at if old is None else self.deed[old])
            kind = "first" if old is None else "new"
            self.kind.append(kind if target is None else ("plus", "minus")[self.depth[at] % 2])
        for at in reversed(range(len(entries))):
            if entries[at][2] is not None:
                self.left[entries[at][2]] -= self.left[at]
        self.tops = [at for at, entry in enumerate(entries) if entry[2] is None]

    def month(self, at, word):
        target = self.entries[at][2]
        number = {"own": at, "target": at if target is None else target, "top": self.top[at], "deed": self.deed[at]}
        return self.entries[number[word]][0]

    def figures(self, rows):
        """The figures that are not 0, of a report that is a dict from kinds to pairs (weight, word)."""
        sums = {}
        for at, (_, amount, _, _) in enumerate(self.entries):
            weight, word = rows.get(self.kind[at], (0, "own"))
            sign = -1 if self.kind[at] == "minus" else 1
            month = self.month(at, word)
            sums[month] = sums.get(month, 0) + weight * sign * amount
        return {month: amount for month, amount in sums.items() if amount}

    def straying(self, rows):
        """The kinds of the entries that count in another month than their own."""
        return {kind for at, kind in enumerate(self.kind)
                if rows.get(kind, (0, "own"))[0] and self.month(at, rows[kind][1]) != self.entries[at][0]}


def goals_met(month, before, after, rows=None):
    """The goals that are met behind a move, ahead of which this month was open."""
    found = set()
    if any(left < 0 for left in after.left):
        found.add("over")
    if any(entry[0] < month for entry in after.entries[len(before.entries):]):
        found.add("moved")
    lasting = [after.deed[at] for at in after.tops if after.left[at] > 0]
    if len(set(lasting)) < len(lasting):
        found.add("twice")
    if rows is not None:
        old, new = before.figures(rows), after.figures(rows)
        if any(old.get(at, 0) != new.get(at, 0) for at in range(month)):
            found.add("changed")
        if sum(new.values()) != sum(after.left[at] for at in after.tops):
            found.add("wrong")
    return found


def place_of(house, kind, state, deed):
    words = f"{kind} {state} {deed} "
    return next((str(row).split(" ")[3] for row in house.rows if str(row).startswith(words)), None)


def moves_let(house, state, told, amounts=(1, 2, 3), begins=2):
    """The moves that a house lets in a state (entries, month): a dict from their texts to the states behind them."""
    entries, month = state
    found = {"shut": (entries, month + 1)}
    if told.kind.count("first") < begins:
        for amount in amounts:
            found[f"begin {amount}"] = (entries + ((month, amount, None, None),), month)
    for at, (own, amount, target, _) in enumerate(entries):
        if told.depth[at] >= house.depth:
            continue
        when = "open" if own == month else "shut"
        months = {deed: {"now": month, "there": own}.get(place_of(house, told.kind[at], when, deed)) for deed in DEEDS}
        most = told.left[at]
        if house.check == "all" and told.depth[at] >= 2:
            most = min(most, told.left[entries[target][2]])
        if months["whole"] is not None and 0 < told.left[at] <= most:
            found[f"take {at}"] = (entries + ((months["whole"], told.left[at], at, None),), month)
        if months["part"] is not None:
            for part in amounts:
                if part <= most:
                    found[f"take {at} by {part}"] = (entries + ((months["part"], part, at, None),), month)
        if months["right"] is not None and all(entry[2] != at for entry in entries):
            for new in amounts:
                pair = ((months["right"], amount, at, None), (months["right"], new, None, at))
                found[f"right {at} to {new}"] = (entries + pair, month)
    return found


def levels(lets, moves, most):
    """For 1, 2, .. moves: the list of triples (state, text, later state), each later state only where it first comes.

    `lets` tells of a state, and what is told of its entries, the dict of the moves. It ends behind so many moves, or
    behind the level in which there are more states than `most`.
    """
    seen = {((), 0)}
    level = [((), 0)]
    for _ in range(moves):
        triples, following = [], []
        for state in level:
            for text, later in lets(state, Told(state[0])).items():
                triples.append((state, text, later))
                if later not in seen:
                    seen.add(later)
                    following.append(later)
        yield triples
        if len(seen) > most:
            return
        level = following


def states_of(house, history):
    """The states from the first one to the one behind a history, or None if a move is not let."""
    states = [((), 0)]
    for text in str(history).split("; ") if len(history) else ():
        amounts = [int(word) for word in text.split(" ")[1:] if word.isdigit()]
        let = moves_let(house, states[-1], Told(states[-1][0]), amounts, 99)
        if text not in let:
            return None
        states.append(let[text])
    return states


def goals_of(states, rows=None):
    """The goals that are met on the way from state to state."""
    found = set()
    for before, after in zip(states, states[1:]):
        found |= goals_met(before[1], Told(before[0]), Told(after[0]), rows)
    return found


def some_house(chance):
    """A house by chance, with few rows or with many."""
    share = chance.choice((0.15, 0.3, 0.5, 0.8))
    rows = [
        Let(kind, state, deed, chance.choice(("now", "there")))
        for kind in KINDS for state in STATES for deed in DEEDS
        if (deed != "right" or kind in ("first", "new")) and chance.random() < share
    ]
    chance.shuffle(rows)
    return House(chance.choice((0, 1, 2, 3, 3, 4, 4)), chance.choice(("left", "left", "all")), rows)


def some_report(chance):
    """The rows of a report by chance, as a dict."""
    return {kind: (chance.choice((-1, 0, 1, 1, 1, 1)), chance.choice(WORDS)) for kind in KINDS if chance.random() < 0.85}


def report_of(rows):
    return Report([Count(kind, weight, word) for kind, (weight, word) in rows.items()])


def chances(many, first=0):
    """So many sources of chance, always the same ones."""
    return [random.Random(first + at) for at in range(many)]
