"""What marks have in common by division, seen from how parts are grown within their stayers."""

from heldmarks.kinds import kinds_by_part
from heldmarks.marks import holds_still
from heldmarks.shares import shares


def grown_by_stayer(house, part, places, number):
    """The part of the part's numbers and a number that leads it to itself; the part's shares are told by places.

    The number leads shares to shares, so it is made of those that are come to by the number, again and again.
    """
    found = list(part)
    come_to = number
    while places[come_to] != 0:
        found.extend([house[inner][come_to] for inner in part])
        come_to = house[come_to][number]
    return tuple(sorted(found))


def grown_in_stayers(house, part):
    """For each share of the part within its stayers the part of the part's numbers and a number of the share.

    A number leads the part to itself just where all of the part lead the number's share to itself.
    """
    least, places = shares(house, part)
    within = [number for number in least if holds_still(house, places, number, part)]
    return [grown_by_stayer(house, part, places, number) for number in within]


def is_prime(number):
    """Whether the number can be divided by just two numbers, 1 and itself."""
    return number > 1 and all(number % least != 0 for least in range(2, number))


def growths_of(house, kind_at, part):
    """For each part grown by p times, p prime, from the part within its stayers: its kind, and p.

    A part with p times as many numbers comes of the part and any one number more, so none is left out.
    """
    told = []
    for grown in grown_in_stayers(house, part):
        times = len(grown) // len(part)
        if is_prime(times):
            told.append((kind_at[grown], times))
    return told


def growths(house, kinds):
    """The tuples (i, j, p): a part of kind i is grown within its stayers to one of kind j by p times, p prime."""
    kind_at = kinds_by_part(house, kinds)
    found = set()
    for i, part in enumerate(kinds):
        for j, times in growths_of(house, kind_at, part):
            found.add((i, j, times))
    return sorted(found)


def stayer_sum(house, kind_at, marks, part):
    """The sum of the marks over the part's shares within its stayers, and how many shares these are."""
    grown_parts = grown_in_stayers(house, part)
    return sum([marks[kind_at[grown]] for grown in grown_parts]), len(grown_parts)


def stayer_sums(house, kinds, marks):
    """For each kind the sum of the marks at it, and by how much it must be divided."""
    kind_at = kinds_by_part(house, kinds)
    return [stayer_sum(house, kind_at, marks, part) for part in kinds]


def first_uneven(house, kinds, marks):
    """The first kind whose sum can't be divided, or None."""
    kind_at = kinds_by_part(house, kinds)
    for kind, part in enumerate(kinds):
        total, many = stayer_sum(house, kind_at, marks, part)
        if total % many != 0:
            return kind
    return None
