"""What each move does, and the book behind a history."""

from contrabooks.errors import NoEntry, Refused
from contrabooks.moves import Begin, Shut, Take


class Entry:
    """An entry: its month and amount, and the numbers of its target and its old, or None."""

    def __init__(self, month, amount, target, old):
        self.month = month
        self.amount = amount
        self.target = target
        self.old = old

    def __eq__(self, other):
        return (
            isinstance(other, Entry)
            and self.month == other.month
            and self.amount == other.amount
            and self.target == other.target
            and self.old == other.old
        )


class Book:
    """The entries so far, and the month that is open."""

    def __init__(self, entries, month):
        self.entries = tuple(entries)
        self.month = month
        self.lefts = lefts_of(self.entries)

    def left_of(self, at):
        """What is left of an entry: less than 0 if too much was taken back."""
        self.require(at)
        return self.lefts[at]

    def depth_of(self, at):
        """How many targets one comes to from an entry."""
        self.require(at)
        depth = 0
        while self.entries[at].target is not None:
            at = self.entries[at].target
            depth = depth + 1
        return depth

    def kind_of(self, at):
        """The kind of an entry: first, new, minus or plus."""
        self.require(at)
        if self.entries[at].old is not None:
            return "new"
        if self.entries[at].target is None:
            return "first"
        return "minus" if self.depth_of(at) % 2 == 1 else "plus"

    def top_of(self, at):
        """The number of the entry without a target to which one comes from target to target."""
        self.require(at)
        while self.entries[at].target is not None:
            at = self.entries[at].target
        return at

    def deed_of(self, at):
        """The number of the first entry to which one comes from top to old."""
        top = self.top_of(at)
        while self.entries[top].old is not None:
            top = self.top_of(self.entries[top].old)
        return top

    def require(self, at):
        """Raise the error for an integer that is no number of an entry."""
        if not 0 <= at < len(self.entries):
            raise NoEntry(at)

    def __len__(self):
        return len(self.entries)

    def __getitem__(self, at):
        self.require(at)
        return self.entries[at]

    def __iter__(self):
        raise TypeError("a book is not iterable")

    def __eq__(self, other):
        return isinstance(other, Book) and self.entries == other.entries and self.month == other.month


def lefts_of(entries):
    """The tuple of what is left of each entry."""
    lefts = [entry.amount for entry in entries]
    # An entry is opposed by later ones alone: from the last one on, each is final when it is taken off its target.
    for at in range(len(entries) - 1, -1, -1):
        target = entries[at].target
        if target is not None:
            lefts[target] = lefts[target] - lefts[at]
    return tuple(lefts)


def signed_amount(book, at):
    """The amount of an entry of a book, with its sign."""
    amount = book[at].amount
    return -amount if book.kind_of(at) == "minus" else amount


def play(house, history):
    """The book behind a history."""
    return books_along(house, history)[-1]


def books_along(house, history):
    """The list of the book ahead of all moves of a history, and of those behind each of them."""
    books = [Book((), 0)]
    for at, move in enumerate(history.moves):
        book = after(house, books[-1], move)
        if book is None:
            raise Refused(at)
        books.append(book)
    return books


def after(house, book, move):
    """The book behind one more move, or None if the house refuses the move."""
    if isinstance(move, Shut):
        return Book(book.entries, book.month + 1)
    made = made_by(house, book, move)
    if made is None:
        return None
    return Book((*book.entries, *made), book.month)


def made_by(house, book, move):
    """The tuple of the entries that a move other than Shut makes, or None if the house refuses it."""
    if isinstance(move, Begin):
        return (Entry(book.month, move.amount, None, None),)
    if move.at >= len(book):
        return None
    if isinstance(move, Take):
        return taken(house, book, move)
    return righted(house, book, move)


def taken(house, book, move):
    """The entries that a Take of an entry that is there makes, or None if the house refuses it."""
    left = book.left_of(move.at)
    if book.depth_of(move.at) >= house.depth or left <= 0:
        return None
    deed = "whole" if move.amount is None else "part"
    amount = left if move.amount is None else move.amount
    month = month_for(house, book, move.at, deed)
    if month is None or amount > left:
        return None
    if house.check == "all" and is_over_all(book, move.at, amount):
        return None
    return (Entry(month, amount, move.at, None),)


def righted(house, book, move):
    """The entries that a Right of an entry that is there makes, or None if the house refuses it."""
    if house.depth == 0 or move.at in [entry.target for entry in book.entries]:
        return None
    month = month_for(house, book, move.at, "right")
    if month is None:
        return None
    return (Entry(month, book[move.at].amount, move.at, None), Entry(month, move.amount, None, move.at))


def month_for(house, book, at, deed):
    """The month into which a house puts what a deed to an entry makes, or None if it does not let the deed."""
    own = book[at].month
    state = "open" if own == book.month else "shut"
    place = house.placed(book.kind_of(at), state, deed)
    if place is None:
        return None
    return book.month if place == "now" else own


def is_over_all(book, at, amount):
    """Whether an amount is more than what is left of the entry two targets above one, if there is such an entry."""
    target = book[at].target
    above = None if target is None else book[target].target
    return above is not None and amount > book.left_of(above)
