"""Groups, houses and parts named anew."""

from heldmarks.errors import NoNumber
from heldmarks.turns import contrary, then
from heldmarks.whole import has_each_once


def named_group(group, names):
    """The group of the turns that lead the new name of each thing to the new name of where it was led."""
    back = contrary(names)
    return tuple(sorted([then(then(back, turn), names) for turn in group]))


def check_order(thing):
    """Refuse what is no list with each number below its length once, 0 first."""
    if not isinstance(thing, list) or not thing or not has_each_once(thing, len(thing)) or thing[0] != 0:
        raise NoNumber()


def named_house(house, order):
    """The house in which each number a is the number at place a of the order."""
    check_order(order)
    if len(order) != len(house):
        raise NoNumber()
    old = [0] * len(order)
    for number, new in enumerate(order):
        old[new] = number
    return [[order[house[a][b]] for b in old] for a in old]


def named_part(part, order):
    """The part of the new numbers of the part's numbers."""
    check_order(order)
    # An order of fewer numbers is none of the part's house.
    if part[-1] >= len(order):
        raise NoNumber()
    return tuple(sorted([order[number] for number in part]))
