"""Reports: which entries count, and in whose month; and the figures that come of them."""

from contrabooks.basics import is_integer
from contrabooks.books import signed_amount
from contrabooks.errors import InvalidReport, InvalidRow, InvalidText
from contrabooks.houses import KINDS

WEIGHTS = (-1, 0, 1)
WEIGHT_WORDS = ("-1", "0", "1")
WHOSE = ("own", "target", "top", "deed")


class Count:
    """A row of a report: the weight of the entries of a kind, and the month in which they count."""

    def __init__(self, kind, weight, whose):
        wrong = wrong_part(kind, weight, whose)
        if wrong is not None:
            raise InvalidRow(wrong)
        self.kind = kind
        self.weight = weight
        self.whose = whose

    def __eq__(self, other):
        return isinstance(other, Count) and str(self) == str(other)

    def __str__(self):
        return f"{self.kind} {self.weight} {self.whose}"


class Report:
    """Rows, at most one for each kind; called with a book, it returns the figures."""

    def __init__(self, rows=()):
        if not is_counts(rows):
            raise InvalidReport("rows")
        self.rows = tuple(rows)

    @classmethod
    def read(cls, text):
        """The report with a text."""
        return cls(read_counts(text))

    def weight_of(self, kind):
        """The weight with which entries of a kind count."""
        for row in self.rows:
            if row.kind == kind:
                return row.weight
        return 0

    def month_of(self, kind):
        """The word for the month in which entries of a kind count."""
        for row in self.rows:
            if row.kind == kind:
                return row.whose
        return "own"

    def __call__(self, book):
        return Figures([pair_of(self, book, at) for at in range(len(book))])

    def __invert__(self):
        return Report([Count(row.kind, -row.weight, row.whose) for row in self.rows])

    def __eq__(self, other):
        return isinstance(other, Report) and meaning_of(self) == meaning_of(other)

    def __str__(self):
        return "\n".join([str(row) for row in self.rows])


class Figures:
    """An integer for each month, 0 for all but some of them."""

    def __init__(self, pairs=()):
        self.sums = added_up(pairs)

    @property
    def months(self):
        """The ascending tuple of the months whose figures are not 0."""
        return tuple([month for month in self.sums])

    @property
    def total(self):
        """The sum of all figures."""
        return sum([self.sums[month] for month in self.sums])

    def __getitem__(self, at):
        return self.sums[at] if at in self.sums else 0

    def __iter__(self):
        raise TypeError("figures are not iterable")

    def __add__(self, other):
        if not isinstance(other, Figures):
            return NotImplemented
        return Figures([*pairs_of(self, 1), *pairs_of(other, 1)])

    def __sub__(self, other):
        if not isinstance(other, Figures):
            return NotImplemented
        return Figures([*pairs_of(self, 1), *pairs_of(other, -1)])

    def __neg__(self):
        return Figures(pairs_of(self, -1))

    def __mul__(self, other):
        if not is_integer(other):
            return NotImplemented
        return Figures(pairs_of(self, other))

    def __rmul__(self, other):
        if not is_integer(other):
            return NotImplemented
        return Figures(pairs_of(self, other))

    def __bool__(self):
        return bool(self.sums)

    def __eq__(self, other):
        return isinstance(other, Figures) and self.sums == other.sums

    def __str__(self):
        if not self.sums:
            return "-"
        return ", ".join([f"{month}: {self.sums[month]}" for month in self.sums])


def wrong_part(kind, weight, whose):
    """The name of the first of three values that cannot stand in a row, or None if all can."""
    if kind not in KINDS:
        return "kind"
    if not (is_integer(weight) and weight in WEIGHTS):
        return "weight"
    if whose not in WHOSE:
        return "whose"
    return None


def is_counts(value):
    """Whether any value is a sequence of rows of a report, no two of one kind."""
    if not (isinstance(value, (list, tuple)) and all([isinstance(item, Count) for item in value])):
        return False
    return len({row.kind for row in value}) == len(value)


def read_counts(text):
    """The list of the rows of the text of a report."""
    rows = []
    lines = text.split("\n") if text else []
    for at, line in enumerate(lines):
        row = read_count(line)
        if row is None or row.kind in [earlier.kind for earlier in rows]:
            raise InvalidText(at)
        rows.append(row)
    return rows


def read_count(text):
    """The row of a report with a text, or None if no row has it."""
    words = text.split(" ")
    if len(words) != 3 or words[1] not in WEIGHT_WORDS:
        return None
    kind, weight, whose = words[0], WEIGHTS[WEIGHT_WORDS.index(words[1])], words[2]
    return Count(kind, weight, whose) if wrong_part(kind, weight, whose) is None else None


def meaning_of(report):
    """For each kind the weight and, unless it is 0, the word for the month."""
    return [
        (report.weight_of(kind), None if report.weight_of(kind) == 0 else report.month_of(kind))
        for kind in KINDS
    ]


def month_counted(report, kind, months):
    """The month in which an entry of a kind counts: one of four months, which are in the order of WHOSE."""
    return months[WHOSE.index(report.month_of(kind))]


def pair_of(report, book, at):
    """The month in which an entry of a book counts, and what it counts there."""
    kind = book.kind_of(at)
    return month_counted(report, kind, months_of(book, at)), report.weight_of(kind) * signed_amount(book, at)


def months_of(book, at):
    """The months of an entry, its target, its top and its deed, in the order of WHOSE."""
    target = at if book[at].target is None else book[at].target
    return [book[number].month for number in (at, target, book.top_of(at), book.deed_of(at))]


def added_up(pairs):
    """The figures of some pairs (month, integer) by their months, ascending, those that are not 0."""
    sums = {}
    for month, amount in pairs:
        sums[month] = sums.get(month, 0) + amount
    ascending = sorted([int(at) for at in sums])
    return {at: sums[at] for at in ascending if sums[at] != 0}


def pairs_of(figures, times):
    """The list of the pairs (month, integer) of figures, so many times."""
    return [(month, figures.sums[month] * times) for month in figures.sums]
