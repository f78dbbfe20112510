"""The rules of books, word by word and without any haste: what the package is compared with."""


class Model:
    """Entries as tuples (month, amount, target, old), by the words of [7] and [10]."""

    def __init__(self, house):
        self.house = house
        self.entries = []
        self.month = 0

    def left(self, at):
        below = [self.left(other) for other in range(len(self.entries)) if self.entries[other][2] == at]
        return self.entries[at][1] - sum(below)

    def depth(self, at):
        target = self.entries[at][2]
        return 0 if target is None else 1 + self.depth(target)

    def kind(self, at):
        _, _, target, old = self.entries[at]
        if target is None:
            return "first" if old is None else "new"
        return ("plus", "minus")[self.depth(at) % 2]

    def sign(self, at):
        return -1 if self.kind(at) == "minus" else 1

    def top(self, at):
        target = self.entries[at][2]
        return at if target is None else self.top(target)

    def deed(self, at):
        top = self.top(at)
        return top if self.entries[top][3] is None else self.deed(self.entries[top][3])

    def place(self, at, deed):
        state = "open" if self.entries[at][0] == self.month else "shut"
        for row in str(self.house).split("\n")[2:]:
            if row.startswith(f"{self.kind(at)} {state} {deed} "):
                return row.split(" ")[3]
        return None

    def do(self, text):
        """Do the move with a text; return whether it is let."""
        words = text.split(" ")
        if words[0] == "shut":
            self.month += 1
            return True
        number = int(words[1])
        if words[0] == "begin":
            self.entries.append((self.month, number, None, None))
            return True
        if number >= len(self.entries):
            return False
        deed = "right" if words[0] == "right" else "part" if len(words) == 4 else "whole"
        place = self.place(number, deed)
        if place is None:
            return False
        month = self.month if place == "now" else self.entries[number][0]
        made = self.righted(number, int(words[3])) if deed == "right" else self.taken(number, words[3:])
        self.entries.extend((month, *rest) for rest in made)
        return bool(made)

    def taken(self, at, words):
        amount = int(words[0]) if words else self.left(at)
        if self.depth(at) >= self.house.depth or self.left(at) <= 0 or amount > self.left(at):
            return []
        if self.house.check == "all" and self.depth(at) >= 2:
            if amount > self.left(self.entries[self.entries[at][2]][2]):
                return []
        return [(amount, at, None)]

    def righted(self, at, amount):
        if self.house.depth == 0 or any(entry[2] == at for entry in self.entries):
            return []
        return [(self.entries[at][1], at, None), (amount, None, at)]
