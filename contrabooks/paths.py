"""Paths: an entry and those that it opposes in turn, and what can become of them in a house.

A standing is the tuple (deed, months, is_new, is_righted, is_hit, now) that tells where a path stands; None stands
for the moment before there is an entry. A step is a tuple (word, way, made, lead): the word tells what is done, the
way is the deed of the row that lets it (or ""), made are the entries that it makes, and lead is the next standing (or
None behind an "over"). An entry that is made is told by (kind, months, now): the months of itself, its target, its
top and its deed, in the order of contrabooks.reports.WHOSE, and the month that is open.

A Right is two steps, for what it makes can go on in two ways: "right" goes on with the path, "renew" with the new
entry alone.
"""

from contrabooks.moves import Begin, History, Right, Shut, Take

BEGINNING = (0, (0,), False, False, False, 0)
WAYS = ("whole", "part")


def steps(house, standing, hits):
    """The list of the steps that a house lets from a standing, with or without those that hit."""
    if standing is None:
        return [("begin", "", (("first", (0, 0, 0, 0), 0),), BEGINNING)]
    deed, months, is_new, is_righted, is_hit, now = standing
    shut = ("shut", "", (), numbered((deed, months, is_new, is_righted, is_hit, now + 1)))
    if is_hit:
        return [shut, *overs(house, standing)]
    found = [shut, *takes(house, standing), *rights(house, standing)]
    return found + hits_of(house, standing) if hits else found


def takes(house, standing):
    """The steps that take back the last entry."""
    deed, months, is_new, is_righted, is_hit, now = standing
    found = []
    for way in WAYS:
        month = month_put(house, standing, len(months) - 1, way)
        if month is not None:
            made = (kind_at(is_new, len(months)), (month, months[-1], months[0], deed), now)
            lead = numbered((deed, (*months, month), is_new, False, False, now))
            found.append(("take", way, (made,), lead))
    return found


def rights(house, standing):
    """The two steps that put the only entry of a path right, if that is let."""
    deed, months, is_new, is_righted, is_hit, now = standing
    month = month_put(house, standing, 0, "right")
    if len(months) > 1 or month is None:
        return []
    minus = ("minus", (month, months[0], months[0], deed), now)
    new = ("new", (month, month, month, deed), now)
    return [
        ("right", "right", (minus, new), numbered((deed, (*months, month), is_new, True, False, now))),
        ("renew", "right", (minus, new), numbered((deed, (month,), True, False, False, now))),
    ]


def hits_of(house, standing):
    """The steps that take back the entry two targets above the last one again."""
    deed, months, is_new, is_righted, is_hit, now = standing
    if len(months) < 3:
        return []
    lead = (deed, months, is_new, is_righted, True, now)
    # What a hit makes is told nowhere: it is beside the path, and no goal but "over" comes of it.
    return [("hit", way, (), lead) for way in WAYS if month_put(house, standing, len(months) - 3, way) is not None]


def overs(house, standing):
    """The steps that take back the last entry of a path that is hit."""
    last = len(standing[1]) - 1
    if house.check == "all":
        return []
    return [("over", way, (), None) for way in WAYS if month_put(house, standing, last, way) is not None]


def month_put(house, standing, at, way):
    """The month into which a house puts what a deed to an entry of the path makes, or None if it is not let."""
    deed, months, is_new, is_righted, is_hit, now = standing
    if at >= house.depth:
        return None
    place = house.placed(kind_at(is_new, at), "open" if months[at] == now else "shut", way)
    if place is None:
        return None
    return now if place == "now" else months[at]


def kind_at(is_new, depth):
    """The kind of an entry of this depth, on a path whose top is a new or a first one."""
    if depth == 0:
        return "new" if is_new else "first"
    return "minus" if depth % 2 == 1 else "plus"


def numbered(standing):
    """A standing with its months numbered by their order, without a gap."""
    deed, months, is_new, is_righted, is_hit, now = standing
    order = sorted(set([deed, *months, now]))
    return (
        order.index(deed), tuple([order.index(month) for month in months]), is_new, is_righted, is_hit, order.index(now)
    )


def search(steps_of, is_asked):
    """All standings to which steps lead, and a shortest list of steps that ends in one that is asked for, or None.

    The standings are the keys of a dict; it is complete only if no step is asked for.
    """
    came = {}
    level = [None]
    while level:
        following = []
        for standing in level:
            for step in steps_of(standing):
                if is_asked(standing, step):
                    return came, steps_up_to(came, standing, step)
                lead = step[3]
                if lead not in came:
                    came[lead] = (standing, step)
                    following.append(lead)
        level = following
    return came, None


def steps_up_to(came, standing, step):
    """The list of the steps from the beginning on, of which one that leaves a standing is the last."""
    found = [step]
    while standing is not None:
        standing, earlier = came[standing]
        found = [earlier, *found]
    return found


def history_of(found):
    """The history of a list of steps from the beginning on.

    A new entry gets three times the amount for which it stands: with weights from -1 to 1, what it counts can neither
    make up for the entry that opposes the old one, nor for what another report counts of that.
    """
    moves = []
    path = []
    many = 0
    amount = 1
    for word, way, made, lead in found:
        moves.append(move_for(word, way, path, amount))
        path = path_behind(word, path, many)
        many = many + len(made)
        amount = amount * 3 if word == "renew" else amount
    return History(moves)


def move_for(word, way, path, amount):
    """The move of a step; the path is the list of the numbers of its entries."""
    if word == "begin":
        return Begin(amount)
    if word == "shut":
        return Shut()
    if word in ("right", "renew"):
        return Right(path[0], amount * 3)
    at = path[-3] if word == "hit" else path[-1]
    return Take(at) if way == "whole" else Take(at, amount)


def path_behind(word, path, many):
    """The path behind a step, ahead of which there were so many entries."""
    if word in ("begin", "take", "right"):
        return [*path, many]
    return [many + 1] if word == "renew" else path
