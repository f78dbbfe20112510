"""Houses: rows that tell what is let."""

from contrabooks.basics import is_number
from contrabooks.errors import InvalidHouse, InvalidRow, InvalidText, NoRow

KINDS = ("first", "new", "minus", "plus")
STATES = ("open", "shut")
DEEDS = ("whole", "part", "right")
PLACES = ("now", "there")
CHECKS = ("left", "all")
DEPTH_LINES = ("depth 0", "depth 1", "depth 2", "depth 3", "depth 4")
CHECK_LINES = ("check left", "check all")


class Let:
    """A row of a house: one thing that is let, and where the entries are put that it makes."""

    def __init__(self, kind, state, deed, place):
        wrong = wrong_word(kind, state, deed, place)
        if wrong is not None:
            raise InvalidRow(wrong)
        self.kind = kind
        self.state = state
        self.deed = deed
        self.place = place

    def __eq__(self, other):
        return isinstance(other, Let) and str(self) == str(other)

    def __str__(self):
        return f"{self.kind} {self.state} {self.deed} {self.place}"


class House:
    """How deep entries may be opposed, what the amounts are checked against, and the rows."""

    def __init__(self, depth, check, rows=()):
        if not (is_number(depth) and depth < len(DEPTH_LINES)):
            raise InvalidHouse("depth")
        if check not in CHECKS:
            raise InvalidHouse("check")
        if not is_rows(rows):
            raise InvalidHouse("rows")
        self.depth = depth
        self.check = check
        self.rows = tuple(rows)

    @classmethod
    def read(cls, text):
        """The house with a text."""
        lines = text.split("\n")
        for at, line in enumerate(lines):
            if not can_stand(line, at):
                raise InvalidText(at)
        if len(lines) < 2:
            raise InvalidText(len(lines))
        rows = [read_row(line) for line in lines[2:]]
        return cls(DEPTH_LINES.index(lines[0]), CHECKS[CHECK_LINES.index(lines[1])], rows)

    def placed(self, kind, state, deed):
        """The place of the first row with these words, or None if there is no such row."""
        for row in self.rows:
            if (row.kind, row.state, row.deed) == (kind, state, deed):
                return row.place
        return None

    def without(self, numbers):
        """The house without the rows with these numbers."""
        for at in numbers:
            if not has_row(self, at):
                raise NoRow(at)
        return House(self.depth, self.check, [row for at, row in enumerate(self.rows) if at not in numbers])

    def __len__(self):
        return len(self.rows)

    def __getitem__(self, at):
        if not has_row(self, at):
            raise NoRow(at)
        return self.rows[at]

    def __iter__(self):
        raise TypeError("a house is not iterable")

    def __and__(self, other):
        if not isinstance(other, House):
            raise TypeError("a house goes together with a house alone")
        depth = self.depth if self.depth <= other.depth else other.depth
        check = "all" if "all" in (self.check, other.check) else "left"
        return House(depth, check, shared_rows(self, other))

    def __le__(self, other):
        if not isinstance(other, House):
            return NotImplemented
        return lets_no_more(self, other)

    def __ge__(self, other):
        if not isinstance(other, House):
            return NotImplemented
        return lets_no_more(other, self)

    def __eq__(self, other):
        return isinstance(other, House) and str(self) == str(other)

    def __str__(self):
        return "\n".join([f"depth {self.depth}", f"check {self.check}", *[str(row) for row in self.rows]])


def wrong_word(kind, state, deed, place):
    """The name of the first of four values that cannot stand in a row, or None if all can."""
    if kind not in KINDS:
        return "kind"
    if state not in STATES:
        return "state"
    if deed not in DEEDS or deed == "right" and kind in ("minus", "plus"):
        return "deed"
    if place not in PLACES:
        return "place"
    return None


def is_rows(value):
    """Whether any value is a sequence of rows of a house."""
    return isinstance(value, (list, tuple)) and all([isinstance(item, Let) for item in value])


def has_row(house, at):
    """Whether an integer is the number of a row of a house."""
    return 0 <= at < len(house.rows)


def can_stand(line, at):
    """Whether the text of a house may have this line at this number."""
    if at == 0:
        return line in DEPTH_LINES
    if at == 1:
        return line in CHECK_LINES
    return read_row(line) is not None


def read_row(text):
    """The row of a house with a text, or None if no row has it."""
    words = text.split(" ")
    if len(words) != 4:
        return None
    kind, state, deed, place = words
    return Let(kind, state, deed, place) if wrong_word(kind, state, deed, place) is None else None


def shared_rows(p, q):
    """The rows for which two houses have the same place."""
    return [
        Let(kind, state, deed, p.placed(kind, state, deed))
        for kind in KINDS
        for state in STATES
        for deed in DEEDS
        if p.placed(kind, state, deed) is not None
        if p.placed(kind, state, deed) == q.placed(kind, state, deed)
    ]


def lets_no_more(p, q):
    """Whether depth, check and rows of a house p let nothing that those of q do not let."""
    if p.depth > q.depth or (p.check == "left" and q.check == "all"):
        return False
    return all([q.placed(row.kind, row.state, row.deed) == p.placed(row.kind, row.state, row.deed) for row in p.rows])
