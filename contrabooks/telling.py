"""What a printed book shows of the entries, and what can be told back from it."""

from contrabooks.books import Book, after, books_along, signed_amount
from contrabooks.moves import Begin, Right, Take


def printed(house, history):
    """The tuple of the lines of a history, entry by entry."""
    books = books_along(house, history)
    lines = []
    for book, later in zip(books, books[1:]):
        lines.extend(lines_behind(book, later))
    return tuple(lines)


def ways(house, lines):
    """The ascending tuple of all ways for some lines."""
    told = [tuple(line) for line in lines]
    found = []
    books = [Book((), 0)]
    while books:
        found.extend([way_of(book) for book in books if len(book) == len(told)])
        books = [later for book in books if len(book) < len(told) for later in books_behind(house, book, told)]
    return in_order(found)


def lines_behind(book, later):
    """The list of the lines of those entries that a move made, between two books."""
    return [(later.month, later[at].month, signed_amount(later, at)) for at in range(len(book), len(later))]


def books_behind(house, book, told):
    """The list of the books, each with another way, behind one more move that makes the next of the lines told."""
    now = told[len(book)][0]
    if now < book.month:
        return []
    ahead = Book(book.entries, now)
    found = [book_behind(house, ahead, moves, told) for moves in moves_for(len(book), told)]
    return [later for later in found if later is not None]


def book_behind(house, book, moves, told):
    """The book behind the first of some moves that makes just the next of the lines told, or None if none does."""
    for move in moves:
        later = after(house, book, move)
        if later is not None and lines_behind(book, later) == told[len(book):len(later)]:
            return later
    return None


def moves_for(many, told):
    """The list of the moves that may make the next line behind so many; moves of one way stand in one tuple."""
    amounts = [abs(line[2]) for line in told[many:many + 2]]
    found = [(Begin(amounts[0]),)]
    for at in range(many):
        found.append((Take(at), Take(at, amounts[0])))
        if len(amounts) == 2:
            found.append((Right(at, amounts[1]),))
    return found


def way_of(book):
    """The tuple of the pairs (target, old) of the entries of a book, with -1 for none."""
    return tuple([(number_or_none(entry.target), number_or_none(entry.old)) for entry in book.entries])


def number_or_none(at):
    """The number of an entry, or -1 for None."""
    return -1 if at is None else at


def in_order(found):
    """The ascending tuple of ways for the same lines."""
    ranks = {rank_of(way): way for way in found}
    return tuple([ranks[rank] for rank in sorted([int(number) for number in ranks])])


def rank_of(way):
    """An integer that is less than that of another way for the same lines if the way is."""
    # All that stands in a way is from -1 to one less than its length: with 1 added, the digits of a number.
    base = len(way) + 1
    rank = 0
    for target, old in way:
        rank = (rank * base + target + 1) * base + old + 1
    return rank
