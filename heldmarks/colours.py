"""Colourings of a moved set: how many are held still, and how many patterns they make."""

from heldmarks.errors import NoColours
from heldmarks.marks import table_of
from heldmarks.pieces import pieces
from heldmarks.solving import counts_by
from heldmarks.turns import rings
from heldmarks.whole import power


def pieces_by(rows, part):
    """The pieces that the set has by the part's numbers alone."""
    return pieces([rows[number] for number in part])


def colour_marks(kinds, rows, colours):
    """For each kind how many colourings its part holds still: those that give each of its pieces one colour."""
    return [power(colours, len(pieces_by(rows, part))) for part in kinds]


def patterns_by(house, kinds, rows, colours):
    """For each kind how many patterns have a holder of this kind."""
    return counts_by(table_of(house, kinds), colour_marks(kinds, rows, colours))


def patterns(rows, colours):
    """How many patterns there are in all: as many as a number holds still on the average."""
    return sum(power(colours, len(rings(row))) for row in rows) // len(rows)


def lowered(amounts, at, many):
    """The amounts with so many fewer at a place."""
    left = list(amounts)
    left[at] -= many
    return tuple(left)


def coloured(ways, size):
    """The ways behind it, where each of the ways ahead gives a piece of this size one more colour.

    Ways are told as a dict: for the amounts that are left, in how many ways it came to them.
    """
    told = {}
    for amounts, many in ways.items():
        for at, amount in enumerate(amounts):
            if amount >= size:
                left = lowered(amounts, at, size)
                told[left] = told.get(left, 0) + many
    return told


def amount_mark(rows, part, amounts):
    """How many colourings with these amounts the part holds still."""
    ways = {tuple(amounts): 1}
    for piece in pieces_by(rows, part):
        ways = coloured(ways, len(piece))
    return ways.get(tuple([0] * len(amounts)), 0)


def amount_marks(kinds, rows, amounts):
    """For each kind how many colourings with these amounts its part holds still."""
    if sum(amounts) != len(rows[0]):
        raise NoColours()
    return [amount_mark(rows, part, amounts) for part in kinds]


def amounts_by(house, kinds, rows, amounts):
    """For each kind how many patterns with these amounts have a holder of this kind."""
    return counts_by(table_of(house, kinds), amount_marks(kinds, rows, amounts))


def amounts_in_all(house, kinds, rows, amounts):
    """How many patterns with these amounts there are in all."""
    return sum(amounts_by(house, kinds, rows, amounts))
