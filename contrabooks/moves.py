"""Moves, and the histories that they make up."""

from contrabooks.basics import is_amount, is_number, read_number
from contrabooks.errors import InvalidMove, InvalidText


class Move:
    """What Begin, Take, Right and Shut are; it is not made itself."""


class Begin(Move):
    """A first entry is made."""

    def __init__(self, amount):
        if not is_amount(amount):
            raise InvalidMove("amount")
        self.amount = amount

    def __eq__(self, other):
        return isinstance(other, Move) and str(self) == str(other)

    def __str__(self):
        return f"begin {self.amount}"


class Take(Move):
    """An entry is taken back: by an amount, or all that is left of it."""

    def __init__(self, at, amount=None):
        if not is_number(at):
            raise InvalidMove("at")
        if amount is not None and not is_amount(amount):
            raise InvalidMove("amount")
        self.at = at
        self.amount = amount

    def __eq__(self, other):
        return isinstance(other, Move) and str(self) == str(other)

    def __str__(self):
        if self.amount is None:
            return f"take {self.at}"
        return f"take {self.at} by {self.amount}"


class Right(Move):
    """An entry is put right: it is opposed, and a new one stands for it."""

    def __init__(self, at, amount):
        if not is_number(at):
            raise InvalidMove("at")
        if not is_amount(amount):
            raise InvalidMove("amount")
        self.at = at
        self.amount = amount

    def __eq__(self, other):
        return isinstance(other, Move) and str(self) == str(other)

    def __str__(self):
        return f"right {self.at} to {self.amount}"


class Shut(Move):
    """The open month is shut, and the next one is open."""

    def __eq__(self, other):
        return isinstance(other, Move) and str(self) == str(other)

    def __str__(self):
        return "shut"


class History:
    """Moves, one after another."""

    def __init__(self, moves=()):
        if not is_moves(moves):
            raise InvalidMove("moves")
        self.moves = tuple(moves)

    @classmethod
    def read(cls, text):
        """The history with a text."""
        return cls(read_moves(text))

    def __len__(self):
        return len(self.moves)

    def __getitem__(self, at):
        found = self.moves[at]
        return History(found) if isinstance(found, tuple) else found

    def __iter__(self):
        raise TypeError("a history is not iterable")

    def __add__(self, other):
        if isinstance(other, History):
            return History(self.moves + other.moves)
        if isinstance(other, Move):
            return History((*self.moves, other))
        return NotImplemented

    def __eq__(self, other):
        return isinstance(other, History) and self.moves == other.moves

    def __str__(self):
        return "; ".join([str(move) for move in self.moves])


def is_moves(value):
    """Whether any value is a sequence of moves."""
    return isinstance(value, (list, tuple)) and all([isinstance(item, Move) for item in value])


def read_moves(text):
    """The list of the moves of the text of a history."""
    moves = []
    parts = text.split("; ") if text else []
    for at, part in enumerate(parts):
        move = read_move(part)
        if move is None:
            raise InvalidText(at)
        moves.append(move)
    return moves


def read_move(text):
    """The move with a text, or None if no move has it."""
    words = text.split(" ")
    numbers = [read_number(word) for word in words[1::2]]
    if None in numbers:
        return None
    try:
        return move_of(words[::2], numbers)
    except InvalidMove:
        return None


def move_of(words, numbers):
    """The move whose text has these words and, between them, these numbers, or None if there is no such form."""
    form = (*words, len(numbers))
    if form == ("begin", 1):
        return Begin(numbers[0])
    if form == ("take", 1):
        return Take(numbers[0])
    if form == ("take", "by", 2):
        return Take(numbers[0], numbers[1])
    if form == ("right", "to", 2):
        return Right(numbers[0], numbers[1])
    if form == ("shut", 0):
        return Shut()
    return None
