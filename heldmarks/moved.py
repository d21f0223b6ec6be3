"""Moved sets: for each number of a house, where it leads each thing."""

from heldmarks.parts import makers_of
from heldmarks.shares import shares
from heldmarks.sums import beside
from heldmarks.whole import is_number


def is_row(thing, many):
    """Whether thing is a list that has for each of so many things one of them."""
    return isinstance(thing, list) and len(thing) == many and all(is_number(place, many) for place in thing)


def leads_along(house, rows):
    """Whether 0 leads each thing to itself, and (a then b) to where b leads what a leads it to.

    The second is looked at for some b alone of which all numbers come, one then another: with these it holds for all,
    and there may be many things.
    """
    if rows[0] != list(range(len(rows[0]))):
        return False
    for b in makers_of(house):
        for a, row in enumerate(rows):
            if rows[house[a][b]] != [rows[b][place] for place in row]:
                return False
    return True


def is_moved(house, thing):
    """Whether thing, whatever it is, is a moved set of the house."""
    if not isinstance(thing, list) or len(thing) != len(house) or not isinstance(thing[0], list):
        return False
    many = len(thing[0])
    return all(is_row(row, many) for row in thing) and leads_along(house, thing)


def set_of_things(group):
    """The set of the things of a group."""
    return [list(turn) for turn in group]


def set_of_shares(house, part):
    """The set of the shares of the part: a number k leads the share of g to the share of (g then k)."""
    least, places = shares(house, part)
    return [[places[house[g][k]] for g in least] for k in range(len(house))]


def set_of_counts(house, kinds, counts):
    """For each kind, so often as is told, the shares of its part, side by side."""
    rows = [[] for number in house]
    for part, count in zip(kinds, counts):
        told = set_of_shares(house, part)
        for time in range(count):
            rows = beside(rows, told)
    return rows
