"""What the document tells, reckoned plainly from a house or a moved set, without the program."""

import functools
import itertools
import re


def plain_part(house, numbers):
    """The least part, by putting any two together until nothing comes."""
    found = {0} | set(numbers)
    while True:
        grown = found | {house[a][b] for a in found for b in found}
        if grown == found:
            return tuple(sorted(found))
        found = grown


def plainly_led(house, part, number):
    back = house[number].index(0)
    return tuple(sorted(house[house[back][inner]][number] for inner in part))


def plain_shares(house, part):
    """The shares as tuples, in the order of their least numbers."""
    return sorted({tuple(sorted(house[h][g] for h in part)) for g in range(len(house))})


def share_led(house, share, number):
    return tuple(sorted(house[g][number] for g in share))


def plain_mark(house, part, other):
    """Count the shares, as sets of numbers, that each number of the other part leads to themselves."""
    found = plain_shares(house, part)
    return sum(all(share_led(house, share, k) == share for k in other) for share in found)


def plain_share_set(house, part):
    """The moved set of the shares, which are led as tuples of numbers."""
    found = plain_shares(house, part)
    return [[found.index(share_led(house, share, k)) for share in found] for k in range(len(house))]


def same_kind(house, one, other):
    return any(plainly_led(house, one, number) == other for number in range(len(house)))


def right_growths(house, parts, part, number):
    """All tuples (k, t) that are right for the number in the grown list of the part."""
    grown = plain_part(house, part + (number,))
    led = [plainly_led(house, grown, t) for t in range(len(house))]
    return [(k, t) for k, found in enumerate(parts) for t in range(len(house)) if led[t] == found]


def right_movers(house, share, other):
    """All entries that are right for the share in the moved list of its part and the other."""
    return [number for number in other if share_led(house, share, number) != share] or [None]


def plain_paper(house, parts, choose):
    """A paper of any parts; of several right entries one is chosen, and (0, 0) stands where none is right."""
    grown = [[choose(right_growths(house, parts, part, number) or [(0, 0)]) for number in range(len(house))]
             for part in parts]
    moved = [[[choose(right_movers(house, share, other)) for share in plain_shares(house, part)] for other in parts]
             for part in parts]
    table = [[plain_mark(house, part, other) for other in parts] for part in parts]
    return list(parts), grown, moved, table


def plainly_moved(house, rows):
    """Whether the rows, of numbers of things alone, are those of a moved set."""
    numbers, things = range(len(house)), range(len(rows[0]))
    return all(rows[0][x] == x for x in things) and all(
        rows[house[a][b]][x] == rows[b][rows[a][x]] for a in numbers for b in numbers for x in things)


def plain_pieces(rows):
    """The pieces, by going on from each thing to all where it is led, until nothing new is come to."""
    told = []
    for first in range(len(rows[0])):
        if not any(first in piece for piece in told):
            piece = {first}
            new = {first}
            while new:
                new = {row[thing] for row in rows for thing in new} - piece
                piece |= new
            told.append(piece)
    return sorted(sorted(piece) for piece in told)


def plain_holder(rows, thing):
    return tuple(number for number in range(len(rows)) if rows[number][thing] == thing)


def plain_counts(house, kinds, rows):
    """For each kind, how many pieces have a thing that is held by a part of it."""
    return [sum(any(same_kind(house, plain_holder(rows, thing), part) for thing in piece)
                for piece in plain_pieces(rows)) for part in kinds]


def plain_marks(kinds, rows):
    return [sum(all(rows[number][thing] == thing for number in part) for thing in range(len(rows[0])))
            for part in kinds]


def plainly_beside(one, other):
    many = len(one[0])
    return [[row[x] if x < many else many + behind[x - many] for x in range(many + len(behind))]
            for row, behind in zip(one, other)]


def plainly_beside_all(house, sets):
    return functools.reduce(plainly_beside, sets, [[] for _ in house])


def plainly_paired(one, other):
    """The pairs are led as pairs, and numbered by their places among all of them."""
    pairs = list(itertools.product(range(len(one[0])), range(len(other[0]))))
    return [[pairs.index((row[a], behind[b])) for a, b in pairs] for row, behind in zip(one, other)]


def number_of_kind(house, kinds, part):
    return next(at for at, kind in enumerate(kinds) if same_kind(house, part, kind))


def plain_growths(house, kinds, parts):
    """The growths, by going through any two parts of the house."""
    kind = {part: number_of_kind(house, kinds, part) for part in parts}
    told = set()
    for one in parts:
        for other in parts:
            times = len(other) // len(one)
            if set(one) <= set(other) and [d for d in range(1, times + 1) if times % d == 0] == [1, times]:
                if all(plainly_led(house, one, number) == one for number in other):
                    told.add((kind[one], kind[other], times))
    return sorted(told)


def plain_stayer_kinds(house, kinds, part):
    """For each share of the part that leads it to itself, the kinds that come of each of its numbers."""
    within = [share for share in plain_shares(house, part) if plainly_led(house, part, share[0]) == part]
    kind_at = {plainly_led(house, kind, number): at for at, kind in enumerate(kinds) for number in range(len(house))}
    return [[kind_at[plain_part(house, part + (number,))] for number in share] for share in within]


def all_colourings(many, colours):
    return list(itertools.product(range(colours), repeat=many))


def colouring_set(rows, colourings):
    """The colourings as things of a moved set; where a thing is led, it has its colour."""
    places = {colouring: at for at, colouring in enumerate(colourings)}
    told = []
    for row in rows:
        led = []
        for colouring in colourings:
            goal = [None] * len(row)
            for thing, place in enumerate(row):
                goal[place] = colouring[thing]
            led.append(places[tuple(goal)])
        told.append(led)
    return told


def plain_house_of_part(house, part):
    return [[part.index(house[a][b]) for b in part] for a in part]


def plain_grown_set(house, part, rows):
    """The pairs (s, y) are led as pairs: where the least number of s is led, is looked for among all (h then t)."""
    least = [share[0] for share in plain_shares(house, part)]
    pairs = [(s, y) for s in range(len(least)) for y in range(len(rows[0]))]

    def goal(s, y, k):
        [(t, h)] = [(t, h) for t in range(len(least)) for h in part if house[h][least[t]] == house[least[s]][k]]
        return t, rows[part.index(h)][y]

    return [[pairs.index(goal(s, y, k)) for s, y in pairs] for k in range(len(house))]


def plain_ways(one, other):
    """How many ways there are to lead the one set into the other, by going through all."""
    many = len(one[0])
    return sum(all(goal[row[x]] == behind[goal[x]] for row, behind in zip(one, other) for x in range(many))
               for goal in itertools.product(range(len(other[0])), repeat=many))


def plainly_leading(house, other, goals):
    numbers = range(len(house))
    return all(goals[house[a][b]] == other[goals[a]][goals[b]] for a in numbers for b in numbers)


def all_leadings(house, other):
    """All leadings of a small house into another, by going through all that leave 0 at 0."""
    told = []
    for rest in itertools.product(range(len(other)), repeat=len(house) - 1):
        if plainly_leading(house, other, (0, *rest)):
            told.append((0, *rest))
    return told


def plain_turn_text(turn):
    """The text of a turn, by going round from each thing that stood in no ring ahead."""
    texts, stood = [], set()
    for first in range(len(turn)):
        ring, thing = [], first
        while thing not in stood:
            stood.add(thing)
            ring.append(str(thing))
            thing = turn[thing]
        if len(ring) > 1:
            texts.append("(" + " ".join(ring) + ")")
    return " ".join(texts) or "()"


@functools.lru_cache(None)
def turns_by_text(many):
    """All turns of so many things by their texts."""
    return {plain_turn_text(turn): turn for turn in itertools.permutations(range(many))}


def plain_group(many, turns):
    """The turns that come of these, or None where there are more than sixty."""
    found, new = {tuple(range(many))}, {tuple(range(many))}
    while new and len(found) <= 60:
        new = {tuple(turn[place] for place in one) for one in new for turn in turns} - found
        found |= new
    return sorted(found) if len(found) <= 60 else None


NUMBER = "(?:0|[1-9][0-9]{0,29})"


def plain_book(text, kinds_many):
    """What reading the text must tell: the book, or ("NoText", line), or "TooMany".

    How many kinds a group has is told by kinds_many, a function.
    """
    if not isinstance(text, str):
        return "NoText", 0
    lines = text.split("\n")
    if not re.fullmatch("things [1-7]", lines[0]):
        return "NoText", 0
    many = int(lines[0][7])
    heads = list(itertools.takewhile(lambda line: re.match("turn(?: |$)", line), lines[1:]))
    for at, line in enumerate(heads, 1):
        if line[5:] not in turns_by_text(many) or len(line) < 5:
            return "NoText", at
    turns = [turns_by_text(many)[line[5:]] for line in heads]
    group = plain_group(many, turns)
    if group is None:
        return "TooMany"
    sets = []
    for at in range(1 + len(heads), len(lines)):
        found = re.fullmatch("set ([a-z]{1,8})((?: %s){%d})" % (NUMBER, kinds_many(group)), lines[at])
        if not found or found.group(1) in [name for name, _ in sets]:
            return "NoText", at
        sets.append((found.group(1), [int(word) for word in found.group(2).split()]))
    return many, turns, sets
