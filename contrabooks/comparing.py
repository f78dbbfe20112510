"""Comparing reports and houses for all histories, and which references a report needs."""

from contrabooks.houses import KINDS
from contrabooks.paths import history_of, search, steps
from contrabooks.reports import month_counted


def alike(house, r, s):
    """Whether two reports have equal figures behind each history of a house."""
    return steps_to_part(house, r, s) is None


def parting(house, r, s):
    """A history with the fewest moves behind which two reports have unequal figures, or None."""
    found = steps_to_part(house, r, s)
    return None if found is None else history_of(found)


def needed(house, report):
    """The tuple of the kinds of which an entry can come that counts in another month than its own."""
    return tuple([kind for kind in KINDS if strays(house, report, kind)])


def same(p, q):
    """Whether two houses let the same histories, with equal books."""
    return steps_apart(p, q) is None


def apart(p, q):
    """A history with the fewest moves that one of two houses lets, or that leads to unlike books, or None."""
    found = steps_apart(p, q)
    return None if found is None else history_of(found)


def steps_to_part(house, r, s):
    """A shortest list of steps whose last one makes an entry that two reports count otherwise, or None."""
    return search(
        lambda standing: steps(house, standing, False),
        lambda standing, step: are_counted_unlike(r, s, step[2]),
    )[1]


def are_counted_unlike(r, s, made):
    """Whether two reports count one of the entries that a step makes with other weights, or in other months."""
    return any([counted(r, kind, months) != counted(s, kind, months) for kind, months, now in made])


def counted(report, kind, months):
    """The weight and the month with which an entry that is made counts, or None if it does not."""
    weight = report.weight_of(kind)
    return None if weight == 0 else (weight, month_counted(report, kind, months))


def strays(house, report, kind):
    """Whether an entry of a kind can come that counts in another month than its own."""
    return search(
        lambda standing: steps(house, standing, False),
        lambda standing, step: kind in kinds_astray(report, step[2]),
    )[1] is not None


def kinds_astray(report, made):
    """The list of the kinds of those entries that a step makes that count in another month than their own."""
    return [
        kind for kind, months, now in made
        if report.weight_of(kind) != 0 if month_counted(report, kind, months) != months[0]
    ]


def steps_apart(p, q):
    """A shortest list of steps whose last one is not a step of both houses, or None."""
    # Only a path that is hit shows the check: one house lets the last entry be taken back then, the other does not.
    hits = p.check != q.check
    return search(
        lambda standing: steps(p, standing, hits) + steps(q, standing, hits),
        lambda standing, step: not (step in steps(p, standing, hits) and step in steps(q, standing, hits)),
    )[1]
