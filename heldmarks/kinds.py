"""All parts of a house, and their kinds: parts that are led to one another are of one kind."""

from heldmarks.parts import led, makers_of, stayers
from heldmarks.shares import shares


def leaders_of(house):
    """For some numbers, of which all numbers come: where each of them leads every number of the house.

    Parts that any number leads to one another are led so by these, one behind another. Those that lead all numbers to
    themselves are left out.
    """
    told = []
    for maker in makers_of(house):
        back = house[maker].index(0)
        leader = [house[number][maker] for number in house[back]]
        if leader != list(range(len(house))):
            told.append(leader)
    return told


def all_led(leaders, part):
    """All parts of the kind of the part, itself first."""
    found = [part]
    seen = {part}
    at = 0
    while at < len(found):
        for leader in leaders:
            goal = tuple(sorted([leader[number] for number in found[at]]))
            if goal not in seen:
                seen.add(goal)
                found.append(goal)
        at += 1
    return found


def grown_by(house, part, makers, number):
    """The part of the part's numbers and one number more, where all numbers of the part come of its makers.

    It is made of shares of the part, so it is enough to see where one number of each is led.
    """
    movers = [*makers, number]
    firsts = [0]
    within = set(part)
    at = 0
    while at < len(firsts):
        row = house[firsts[at]]
        for mover in movers:
            come_to = row[mover]
            if come_to not in within:
                firsts.append(come_to)
                for inner in part:
                    within.add(house[inner][come_to])
        at += 1
    return tuple(sorted(within))


def parts_by_kind(house):
    """For each kind a list of all its parts.

    A part grown from one that is led to another is led to one grown from the other, so it is enough to grow one part
    of each kind.
    """
    leaders = leaders_of(house)
    told = [[(0,)]]
    makers = [[]]
    seen = {(0,)}
    at = 0
    while at < len(told):
        part = told[at][0]
        for number in shares(house, part)[0]:
            grown = grown_by(house, part, makers[at], number)
            if grown not in seen:
                alike = all_led(leaders, grown)
                for other in alike:
                    seen.add(other)
                told.append(alike)
                makers.append([*makers[at], number])
        at += 1
    return told


def in_order(parts):
    """The parts, first by how many numbers they have, then as tuples compare."""
    return sorted(parts, key=lambda part: (len(part), part))


def all_parts(house):
    """All parts in order."""
    return in_order([part for alike in parts_by_kind(house) for part in alike])


def kinds_of(house):
    """Of each kind the first part, in the order of all parts."""
    return in_order([min(alike) for alike in parts_by_kind(house)])


class KindFinder:
    """Of which kind parts are, asked again and again within one answer.

    Parts are led about only where they were not come to ahead: most are those of the kinds themselves.
    """

    def __init__(self, house, kinds):
        self.house = house
        self.known = {part: kind for kind, part in enumerate(kinds)}
        self.leaders = []

    def number_of(self, part):
        """The number of the part's kind."""
        if part not in self.known:
            self.lead_about(part)
        return self.known[part]

    def lead_about(self, part):
        """Come to know all parts of the kind of the part; one of them is known, that of the kinds."""
        if not self.leaders:
            self.leaders = leaders_of(self.house)
        alike = all_led(self.leaders, part)
        kind = [self.known[other] for other in alike if other in self.known][0]
        for other in alike:
            self.known[other] = kind


def kind_of(house, kinds, part):
    """Of which kind the part is, and the least number that leads it to the part told there."""
    places = {kind: at for at, kind in enumerate(kinds)}
    number = 0
    goal = led(house, part, number)
    while goal not in places:
        number += 1
        goal = led(house, part, number)
    return places[goal], number


def many_of(house, part):
    """How many parts are of the kind of the part."""
    return len(house) // len(stayers(house, part))
