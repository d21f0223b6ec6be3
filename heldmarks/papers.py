"""Papers: a table of marks with all that is needed to see that it is right."""

from heldmarks.kinds import kind_of, kinds_of
from heldmarks.parts import part_of
from heldmarks.shares import shares


def grown_row(house, kinds, part):
    """For each number: of which kind the part of the part's numbers and it is, and a number that leads it there."""
    least, places = shares(house, part)
    # Numbers of one share give the same part, so the least of each are enough.
    told = [kind_of(house, kinds, part_of(house, [*part, number])) for number in least]
    return [told[place] for place in places]


def mover_of(house, places, number, other):
    """A number of the other part that leads the share of the number to another one, or None."""
    for mover in other:
        if places[house[number][mover]] != places[number]:
            return mover
    return None


def moved_row(house, kinds, part):
    """For each kind, for each share of the part, what of the kind's part moves the share."""
    least, places = shares(house, part)
    return [[mover_of(house, places, number, other) for number in least] for other in kinds]


def paper_of(house):
    """The paper of the kinds: their parts, how they are grown, what moves their shares, and the table."""
    kinds = kinds_of(house)
    grown = [grown_row(house, kinds, part) for part in kinds]
    moved = [moved_row(house, kinds, part) for part in kinds]
    table = [[movers.count(None) for movers in row] for row in moved]
    return kinds, grown, moved, table
