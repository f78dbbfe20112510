"""Repairs: the rows to strike, so that a goal does not happen."""

from contrabooks.deciding import happens


def repairs(house, goal, report=None):
    """The tuple of all least choices of rows without which a goal does not happen."""
    found = []
    choices = [()]
    while choices:
        happening = []
        for numbers in choices:
            if any([is_part(choice, numbers) for choice in found]):
                continue
            if happens(house.without(numbers), goal, report):
                happening.append(numbers)
            else:
                found.append(numbers)
        # Whatever goes on from a choice that is found, or has one in it, has it in it, too.
        choices = [longer for numbers in happening for longer in longer_by_one(numbers, len(house))]
    return tuple(found)


def is_part(choice, numbers):
    """Whether all numbers of a choice are among others."""
    return all([at in numbers for at in choice])


def longer_by_one(numbers, many):
    """The list of the choices, out of so many rows, with one more number behind those of a choice."""
    following = numbers[-1] + 1 if numbers else 0
    return [(*numbers, at) for at in range(following, many)]
