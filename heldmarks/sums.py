"""Two sets of one house, side by side and in pairs."""

from heldmarks.kinds import kind_of
from heldmarks.parts import common, led
from heldmarks.shares import shares


def beside(one, other):
    """The two sets side by side: the things of the other are numbered behind those of the one."""
    many = len(one[0])
    return [row + [many + place for place in behind] for row, behind in zip(one, other)]


def paired(one, other):
    """The pairs (a, b) of a thing of each, numbered a times how many the other has, and b; both are led at once."""
    many = len(other[0])
    return [[a * many + b for a in row for b in behind] for row, behind in zip(one, other)]


def pair_counts(house, kinds, i, j):
    """The counts of the pairs of the shares of kinds i and j.

    Part j holds the first share of its own, and each piece of the pairs has some with this share. So there is one
    piece for all shares of part i that part j leads to one another, and the pairs, perhaps some thousands, need not
    be written down.
    """
    part, other = kinds[i], kinds[j]
    least, places = shares(house, part)
    counts = [0] * len(kinds)
    seen = set()
    for place, number in enumerate(least):
        if place not in seen:
            for mover in other:
                seen.add(places[house[number][mover]])
            # A part led by a number of a share holds the share.
            kind = kind_of(house, kinds, common(led(house, part, number), other))[0]
            counts[kind] += 1
    return counts
