"""Pieces of a moved set, the holders of its things, and so its counts and marks."""

from heldmarks.kinds import kind_of


def pieces(rows):
    """The lists of things that are led to one another, rising, in the order of their first things."""
    told = []
    seen = set()
    for first in range(len(rows[0])):
        if first not in seen:
            piece = sorted({row[first] for row in rows})
            told.append(piece)
            for thing in piece:
                seen.add(thing)
    return told


def holder(rows, thing):
    """The part of the numbers that lead the thing to itself."""
    return tuple(number for number, row in enumerate(rows) if row[thing] == thing)


def counts_of(house, kinds, rows):
    """For each kind, how many pieces have a thing whose holder is of the kind."""
    counts = [0] * len(kinds)
    for piece in pieces(rows):
        kind = kind_of(house, kinds, holder(rows, piece[0]))[0]
        counts[kind] += 1
    return counts


def is_held(rows, part, thing):
    """Whether all numbers of the part lead the thing to itself."""
    return all(rows[number][thing] == thing for number in part)


def many_held(rows, part):
    """How many things are led to themselves by all numbers of the part."""
    return len([thing for thing in range(len(rows[0])) if is_held(rows, part, thing)])


def marks_of(kinds, rows):
    """For each kind, how many things are led to themselves by all numbers of its part."""
    return [many_held(rows, part) for part in kinds]
