"""All parts of a house, and their kinds: parts that are led to one another are of one kind."""

from heldmarks.parts import led, part_of, stayers
from heldmarks.shares import shares


def parts_grown(house, part):
    """The parts of the part's numbers and one number more.

    Numbers of one share give the same part, so the least of each share are enough.
    """
    least = shares(house, part)[0]
    return [part_of(house, [*part, number]) for number in least]


def all_parts(house):
    """All parts, first by how many numbers they have, then as tuples compare."""
    found = [(0,)]
    seen = {(0,)}
    at = 0
    while at < len(found):
        for grown in parts_grown(house, found[at]):
            if grown not in seen:
                seen.add(grown)
                found.append(grown)
        at += 1
    return sorted(found, key=lambda part: (len(part), part))


def kinds_of(house):
    """Of each kind the first part, in the order of all parts."""
    kinds = []
    seen = set()
    for part in all_parts(house):
        if part not in seen:
            kinds.append(part)
            for number in range(len(house)):
                seen.add(led(house, part, number))
    return kinds


def kind_of(house, kinds, part):
    """Of which kind the part is, and the least number that leads it to the part told there."""
    places = {kind: at for at, kind in enumerate(kinds)}
    number = 0
    goal = led(house, part, number)
    while goal not in places:
        number += 1
        goal = led(house, part, number)
    return places[goal], number


def many_of(house, part):
    """How many parts are of the kind of the part."""
    return len(house) // len(stayers(house, part))
