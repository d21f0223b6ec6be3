"""What marks have in common by division, seen from how parts are grown within their stayers."""

from heldmarks.kinds import KindFinder
from heldmarks.marks import holds_still
from heldmarks.shares import shares


def rounds_of(house, places, number):
    """The number, taken again and again, up to the first time that it is in the part whose shares places tells."""
    told = [number]
    come_to = number
    while places[come_to] != 0:
        come_to = house[come_to][number]
        told.append(come_to)
    return told


def common_measure(one, other):
    """The greatest number by which both can be divided."""
    while other != 0:
        one, other = other, one % other
    return one


def with_the_same_rounds(rounds):
    """Those of the rounds that, taken again and again, come to just as many shares.

    They are those whose times have no measure in common with how many rounds there are.
    """
    many = len(rounds)
    # One or two rounds are by far the most frequent, and then it is the first alone.
    if many <= 2:
        return rounds[:1]
    return [come_to for times, come_to in enumerate(rounds, start=1) if common_measure(times, many) == 1]


def grown_in_stayers(house, part):
    """The parts of the part's numbers and one of its stayers, as tuples: the part, and how many shares give it.

    A number leads the part to itself just where all of the part lead the number's share to itself. It then leads
    shares to shares, so what is grown is made of those that are come to by it, again and again; and the same is grown
    by each of them that comes to as many, so these need not be gone through anew.
    """
    least, places = shares(house, part)
    told = []
    done = set()
    for share, number in enumerate(least):
        if share not in done and holds_still(house, places, number, part):
            rounds = rounds_of(house, places, number)
            makers = with_the_same_rounds(rounds)
            for maker in makers:
                done.add(places[maker])
            grown = sorted([house[inner][come_to] for come_to in rounds for inner in part])
            told.append((tuple(grown), len(makers)))
    return told


def is_prime(number):
    """Whether the number can be divided by just two numbers, 1 and itself."""
    return number > 1 and all(number % least != 0 for least in range(2, number))


def growths_of(house, finder, part):
    """For each part grown by p times, p prime, from the part within its stayers: its kind, and p.

    A part with p times as many numbers comes of the part and any one number more, so none is left out.
    """
    told = []
    for grown, many in grown_in_stayers(house, part):
        times = len(grown) // len(part)
        if is_prime(times):
            told.append((finder.number_of(grown), times))
    return told


def growths(house, kinds):
    """The tuples (i, j, p): a part of kind i is grown within its stayers to one of kind j by p times, p prime."""
    finder = KindFinder(house, kinds)
    found = set()
    for i, part in enumerate(kinds):
        for j, times in growths_of(house, finder, part):
            found.add((i, j, times))
    return sorted(found)


def stayer_sum(house, finder, marks, part):
    """The sum of the marks over the part's shares within its stayers, and how many shares these are."""
    total = 0
    in_all = 0
    for grown, many in grown_in_stayers(house, part):
        total += many * marks[finder.number_of(grown)]
        in_all += many
    return total, in_all


def stayer_sums(house, kinds, marks):
    """For each kind the sum of the marks at it, and by how much it must be divided."""
    finder = KindFinder(house, kinds)
    return [stayer_sum(house, finder, marks, part) for part in kinds]


def first_uneven(house, kinds, marks):
    """The first kind whose sum can't be divided, or None."""
    finder = KindFinder(house, kinds)
    for kind, part in enumerate(kinds):
        total, many = stayer_sum(house, finder, marks, part)
        if total % many != 0:
            return kind
    return None
