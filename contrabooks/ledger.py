"""Ledgers: a book that is led move by move."""

from contrabooks.books import Book, after
from contrabooks.errors import InvalidMove, Refused
from contrabooks.moves import History, Move


class Trial:
    """A block, entered once, behind which a ledger is as it was ahead of it."""

    def __init__(self, ledger):
        self.ledger = ledger
        self.past = ()

    def __enter__(self):
        self.past = self.ledger.past
        return self.ledger

    def __exit__(self, kind, value, trace):
        self.ledger.past = self.past


class Ledger:
    """A house, and the moves that were done in it so far."""

    def __init__(self, house):
        self.rules = house
        # The pairs of history and book at each moment up to now. A tuple never changes: who keeps it can go back to it.
        self.past = ((History(), Book((), 0)),)

    @property
    def house(self):
        """The house."""
        return self.rules

    @property
    def history(self):
        """The history of all moves so far."""
        return self.past[-1][0]

    @property
    def book(self):
        """The book behind all moves so far."""
        return self.past[-1][1]

    def do(self, move):
        """Do a move; return the tuple of the numbers of the entries that it made."""
        if not isinstance(move, Move):
            raise InvalidMove("move")
        many = len(self.book)
        later = after(self.house, self.book, move)
        if later is None:
            raise Refused(len(self))
        self.past = (*self.past, (self.history + move, later))
        return tuple(range(many, len(later)))

    def undo(self):
        """Take back the last move; return whether there was one."""
        if len(self) == 0:
            return False
        self.past = self.past[:-1]
        return True

    def trial(self):
        """A new context manager, behind whose block the ledger is as it was ahead of it."""
        return Trial(self)

    def within(self, work):
        """What a function returns that is called with the ledger, in the block of a trial."""
        with self.trial():
            return work(self)

    def several(self, moves):
        """Do all of some moves, or none; return the tuple of what each made."""
        past = self.past
        made = []
        for at, move in enumerate(moves):
            try:
                made.append(self.do(move))
            except (InvalidMove, Refused) as error:
                self.past = past
                raise Refused(at) from error
        return tuple(made)

    def __len__(self):
        return len(self.history)

    def __getitem__(self, at):
        return self.book[at]

    def __iter__(self):
        raise TypeError("a ledger is not iterable")

    def __iadd__(self, other):
        self.do(other)
        return self
