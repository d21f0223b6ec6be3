"""What the document tells, reckoned plainly from a house or a moved set, without the program."""

import functools
import itertools


def plain_part(house, numbers):
    """The least part, by putting any two together until nothing comes."""
    found = {0} | set(numbers)
    while True:
        grown = found | {house[a][b] for a in found for b in found}
        if grown == found:
            return tuple(sorted(found))
        found = grown


def plainly_led(house, part, number):
    back = house[number].index(0)
    return tuple(sorted(house[house[back][inner]][number] for inner in part))


def plain_shares(house, part):
    """The shares as tuples, in the order of their least numbers."""
    return sorted({tuple(sorted(house[h][g] for h in part)) for g in range(len(house))})


def share_led(house, share, number):
    return tuple(sorted(house[g][number] for g in share))


def plain_mark(house, part, other):
    """Count the shares, as sets of numbers, that each number of the other part leads to themselves."""
    found = plain_shares(house, part)
    return sum(all(share_led(house, share, k) == share for k in other) for share in found)


def plain_share_set(house, part):
    """The moved set of the shares, which are led as tuples of numbers."""
    found = plain_shares(house, part)
    return [[found.index(share_led(house, share, k)) for share in found] for k in range(len(house))]


def same_kind(house, one, other):
    return any(plainly_led(house, one, number) == other for number in range(len(house)))


def right_growths(house, parts, part, number):
    """All tuples (k, t) that are right for the number in the grown list of the part."""
    grown = plain_part(house, part + (number,))
    led = [plainly_led(house, grown, t) for t in range(len(house))]
    return [(k, t) for k, found in enumerate(parts) for t in range(len(house)) if led[t] == found]


def right_movers(house, share, other):
    """All entries that are right for the share in the moved list of its part and the other."""
    return [number for number in other if share_led(house, share, number) != share] or [None]


def plain_paper(house, parts, choose):
    """A paper of any parts; of several right entries one is chosen, and (0, 0) stands where none is right."""
    grown = [[choose(right_growths(house, parts, part, number) or [(0, 0)]) for number in range(len(house))]
             for part in parts]
    moved = [[[choose(right_movers(house, share, other)) for share in plain_shares(house, part)] for other in parts]
             for part in parts]
    table = [[plain_mark(house, part, other) for other in parts] for part in parts]
    return list(parts), grown, moved, table


def plainly_moved(house, rows):
    """Whether the rows, of numbers of things alone, are those of a moved set."""
    numbers, things = range(len(house)), range(len(rows[0]))
    return all(rows[0][x] == x for x in things) and all(
        rows[house[a][b]][x] == rows[b][rows[a][x]] for a in numbers for b in numbers for x in things)


def plain_pieces(rows):
    """The pieces, by joining each thing with where it is led until nothing is left to join."""
    things = range(len(rows[0]))
    names = list(things)
    for row in rows:
        for thing in things:
            old, new = names[row[thing]], names[thing]
            names = [new if name == old else name for name in names]
    found = {}
    for thing in things:
        found.setdefault(names[thing], []).append(thing)
    return sorted(found.values())


def plain_holder(rows, thing):
    return tuple(number for number in range(len(rows)) if rows[number][thing] == thing)


def plain_counts(house, kinds, rows):
    """For each kind, how many pieces have a thing that is held by a part of it."""
    return [sum(any(same_kind(house, plain_holder(rows, thing), part) for thing in piece)
                for piece in plain_pieces(rows)) for part in kinds]


def plain_marks(kinds, rows):
    return [sum(all(rows[number][thing] == thing for number in part) for thing in range(len(rows[0])))
            for part in kinds]


def plainly_beside(one, other):
    many = len(one[0])
    return [[row[x] if x < many else many + behind[x - many] for x in range(many + len(behind))]
            for row, behind in zip(one, other)]


def plainly_beside_all(house, sets):
    return functools.reduce(plainly_beside, sets, [[] for _ in house])


def plainly_paired(one, other):
    """The pairs are led as pairs, and numbered by their places among all of them."""
    pairs = list(itertools.product(range(len(one[0])), range(len(other[0]))))
    return [[pairs.index((row[a], behind[b])) for a, b in pairs] for row, behind in zip(one, other)]
