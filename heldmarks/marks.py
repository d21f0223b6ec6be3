"""Marks: how many shares of one part are held still by another part; and the table of all kinds."""

from heldmarks.shares import shares


def holds_still(house, places, number, other):
    """Whether all numbers of the other part lead the share of the number to itself."""
    return all(places[house[number][mover]] == places[number] for mover in other)


def held(house, told, other):
    """How many of the shares, told as a tuple of two lists, the other part holds still."""
    least, places = told
    return len([number for number in least if holds_still(house, places, number, other)])


def mark(house, part, other):
    """How many shares of the part are led to themselves by all numbers of the other part."""
    return held(house, shares(house, part), other)


def table_row(house, kinds, part):
    """The marks of the part at each kind."""
    told = shares(house, part)
    return [held(house, told, other) for other in kinds]


def table_of(house, kinds):
    """For each kind i, for each kind j, the mark of part i at part j."""
    return [table_row(house, kinds, part) for part in kinds]
