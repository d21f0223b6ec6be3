"""What marks have in common by division, seen from how parts are grown within their stayers."""

from heldmarks.kinds import kind_of
from heldmarks.parts import part_of, stayers
from heldmarks.shares import shares


def grown_in_stayers(house, part):
    """For each share of the part within its stayers the part of the part's numbers and a number of the share."""
    within = stayers(house, part)
    return [part_of(house, [*part, number]) for number in shares(house, part)[0] if number in within]


def is_prime(number):
    """Whether the number can be divided by just two numbers, 1 and itself."""
    return number > 1 and all(number % least != 0 for least in range(2, number))


def growths_of(house, kinds, part):
    """For each part grown by p times, p prime, from the part within its stayers: its kind, and p.

    A part with p times as many numbers comes of the part and any one number more, so none is left out.
    """
    told = []
    for grown in grown_in_stayers(house, part):
        times = len(grown) // len(part)
        if is_prime(times):
            told.append((kind_of(house, kinds, grown)[0], times))
    return told


def growths(house, kinds):
    """The tuples (i, j, p): a part of kind i is grown within its stayers to one of kind j by p times, p prime."""
    found = set()
    for i, part in enumerate(kinds):
        for j, times in growths_of(house, kinds, part):
            found.add((i, j, times))
    return sorted(found)


def stayer_sum(house, kinds, marks, part):
    """The sum of the marks over the part's shares within its stayers, and how many shares these are."""
    grown_parts = grown_in_stayers(house, part)
    total = sum(marks[kind_of(house, kinds, grown)[0]] for grown in grown_parts)
    return total, len(grown_parts)


def stayer_sums(house, kinds, marks):
    """For each kind the sum of the marks at it, and by how much it must be divided."""
    return [stayer_sum(house, kinds, marks, part) for part in kinds]


def first_uneven(house, kinds, marks):
    """The first kind whose sum can't be divided, or None."""
    for kind, (total, many) in enumerate(stayer_sums(house, kinds, marks)):
        if total % many != 0:
            return kind
    return None
