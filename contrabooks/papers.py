"""Papers: that a goal never happens, told so that anybody can check it."""

from contrabooks.basics import is_number
from contrabooks.deciding import has_goal, meets
from contrabooks.errors import InvalidGoal
from contrabooks.paths import search, steps

MOST_MONTHS = 5


def paper(house, goal, report=None):
    """A right paper for a house, a goal and a report, or None if the goal happens."""
    if not has_goal(goal, report):
        raise InvalidGoal()
    standings, found = search(
        lambda standing: steps(house, standing, goal == "over"),
        lambda standing, step: meets(goal, report, standing, step),
    )
    return tuple(list(standings)) if found is None else None


def paper_holds(house, goal, value, report=None):
    """Whether any value is a right paper."""
    if not has_goal(goal, report):
        raise InvalidGoal()
    if not (isinstance(value, tuple) and all([is_standing(item) for item in value])):
        return False
    told = {standing: True for standing in value}
    # None is the moment ahead of the beginning: from there a step leads to the beginning.
    return all([is_closed(house, goal, report, standing, told) for standing in (None, *value)])


def is_closed(house, goal, report, standing, told):
    """Whether no step from a standing meets the goal, and all lead to standings that are told."""
    for step in steps(house, standing, goal == "over"):
        if meets(goal, report, standing, step):
            return False
        # An "over" leads nowhere: it meets a goal, though perhaps not the one that is asked for.
        if step[3] is not None and step[3] not in told:
            return False
    return True


def is_standing(value):
    """Whether any value has just the form of a standing."""
    if not (isinstance(value, tuple) and len(value) == 6):
        return False
    deed, months, is_new, is_righted, is_hit, now = value
    if not (isinstance(months, tuple) and len(months) <= MOST_MONTHS):
        return False
    if not all([isinstance(item, bool) for item in (is_new, is_righted, is_hit)]):
        return False
    if not are_numbered([deed, *months, now]):
        return False
    return len(months) >= (3 if is_hit else 2 if is_righted else 1)


def are_numbered(values):
    """Whether values are the numbers from 0 to the last of them, each at least once."""
    if not all([is_number(value) for value in values]):
        return False
    return all([value <= values[-1] for value in values]) and len(set(values)) == values[-1] + 1
