"""Sets of a part's house grown to sets of the whole house, and the ways to lead one set into another."""

from heldmarks.shares import shares
from heldmarks.whole import power
from heldmarks.within import lie_in


def grown(house, kinds, part, counts):
    """The grown counts: each piece goes to the kind of the whole house where its kind lies."""
    told = [0] * len(kinds)
    for kind, count in zip(lie_in(house, kinds, part), counts):
        told[kind] += count
    return told


def split_by(house, part, least):
    """For each number a tuple (t, p): it is h then the least number of share t, h at place p in the part."""
    told = [(0, 0)] * len(house)
    for share, first in enumerate(least):
        for place, inner in enumerate(part):
            told[house[inner][first]] = (share, place)
    return told


def grown_set(house, part, rows):
    """The pairs (s, y) of a share of the part and a thing, numbered s times how many things there are, and y."""
    many = len(rows[0])
    least = shares(house, part)[0]
    split = split_by(house, part, least)
    told = []
    for number in range(len(house)):
        steps = [split[house[first][number]] for first in least]
        told.append([share * many + thing for share, place in steps for thing in rows[place]])
    return told


def ways(counts, marks):
    """How many ways lead a set with these counts into one with these marks."""
    told = 1
    for count, many in zip(counts, marks):
        told *= power(many, count)
    return told
