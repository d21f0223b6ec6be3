"""Marks: how many shares of one part are held still by another part; and the table of all kinds."""

from heldmarks.kinds import all_led, leaders_of
from heldmarks.shares import shares


def holds_still(house, places, number, other):
    """Whether all numbers of the other part lead the share of the number to itself."""
    row = house[number]
    share = places[number]
    for mover in other:
        if places[row[mover]] != share:
            return False
    return True


def mark(house, part, other):
    """How many shares of the part are led to themselves by all numbers of the other part."""
    least, places = shares(house, part)
    return len([number for number in least if holds_still(house, places, number, other)])


def bits_of(part):
    """The part as one number: a part is within another one where it has no bit beyond the other's."""
    bits = 0
    for number in part:
        bits |= 1 << number
    return bits


def table_row(house, inner_bits, alike):
    """The marks of a part, told with all parts of its kind, at each of the parts told by their bits.

    Each part of the kind holds as many of the shares as the part has within its stayers, so whatever is within this
    many such parts holds so many times as many.
    """
    times = len(house) // len(alike) // len(alike[0])
    outer_bits = [bits_of(part) for part in alike]
    return [times * len([outer for outer in outer_bits if inner & outer == inner]) for inner in inner_bits]


def table_of(house, kinds):
    """For each kind i, for each kind j, the mark of part i at part j."""
    leaders = leaders_of(house)
    bits = [bits_of(part) for part in kinds]
    return [table_row(house, bits, all_led(leaders, part)) for part in kinds]
