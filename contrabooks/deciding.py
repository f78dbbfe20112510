"""Goals, which should not happen: whether a history comes to them, whether any does, and a shortest one that does."""

from contrabooks.books import books_along
from contrabooks.errors import InvalidGoal
from contrabooks.paths import history_of, search, steps
from contrabooks.reports import month_counted

GOALS = ("changed", "moved", "over", "twice", "wrong")
REPORT_GOALS = ("changed", "wrong")


def met(house, history, report=None):
    """The ascending tuple of the goals to which a history comes."""
    books = books_along(house, history)
    found = []
    for book, later in zip(books, books[1:]):
        found.extend(met_by(book, later, report))
    return tuple([goal for goal in GOALS if goal in found])


def happens(house, goal, report=None):
    """Whether some history comes to a goal."""
    return steps_to(house, goal, report) is not None


def least(house, goal, report=None):
    """A history with the fewest moves that comes to a goal, or None."""
    found = steps_to(house, goal, report)
    return None if found is None else history_of(found)


def goals(house, report=None):
    """The ascending tuple of the goals that happen."""
    return tuple([goal for goal in GOALS if has_goal(goal, report) if happens(house, goal, report)])


def has_goal(goal, report):
    """Whether any value is a goal that can be asked for with this report, or without one."""
    return goal in GOALS and (report is not None or goal not in REPORT_GOALS)


def steps_to(house, goal, report):
    """A shortest list of steps whose last one meets a goal, or None."""
    if not has_goal(goal, report):
        raise InvalidGoal()
    return search(
        lambda standing: steps(house, standing, goal == "over"),
        lambda standing, step: meets(goal, report, standing, step),
    )[1]


def meets(goal, report, standing, step):
    """Whether a step from a standing meets a goal."""
    word, way, made, lead = step
    if goal == "over":
        return word == "over"
    if goal == "twice":
        return word == "take" and standing[3]
    if goal == "moved":
        return any([months[0] < now for kind, months, now in made])
    if goal == "changed":
        return any([counts_when_shut(report, kind, months, now) for kind, months, now in made])
    return any([report.weight_of(kind) != 1 for kind, months, now in made])


def counts_when_shut(report, kind, months, now):
    """Whether an entry that is made counts in a month that is shut."""
    return report.weight_of(kind) != 0 and month_counted(report, kind, months) < now


def met_by(book, later, report):
    """The list of the goals that are met at the moment behind a move, which made a later book of a book."""
    found = []
    if any([left < 0 for left in later.lefts]):
        found.append("over")
    if any([entry.month < book.month for entry in later.entries[len(book):]]):
        found.append("moved")
    if is_twice(later):
        found.append("twice")
    if report is None:
        return found
    change = report(later) - report(book)
    if any([month < book.month for month in change.months]):
        found.append("changed")
    if report(later).total != sum([later.left_of(at) for at in tops_of(later)]):
        found.append("wrong")
    return found


def tops_of(book):
    """The numbers of the first and new entries."""
    return [at for at, entry in enumerate(book.entries) if entry.target is None]


def is_twice(book):
    """Whether two first or new entries of one deed have more than 0 left."""
    deeds = [book.deed_of(at) for at in tops_of(book) if book.left_of(at) > 0]
    return len(set(deeds)) < len(deeds)
