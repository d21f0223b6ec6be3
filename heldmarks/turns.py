"""Turns of one to seven things, as tuples of where each thing is led."""

from heldmarks.errors import NoTurn
from heldmarks.whole import has_each_once, is_number, is_whole

MOST_THINGS = 7


def can_be_turned(many):
    """Whether there are turns of so many things."""
    return is_whole(many) and 1 <= many <= MOST_THINGS


def is_turn(thing):
    """Whether thing, whatever it is, is a turn."""
    return isinstance(thing, tuple) and can_be_turned(len(thing)) and has_each_once(thing, len(thing))


def stay_of(many):
    """The turn of so many things that leads each to itself."""
    return tuple(range(many))


def then(one, other):
    """The one turn, then the other."""
    if len(one) != len(other):
        raise NoTurn(1)
    return tuple(other[place] for place in one)


def contrary(turn):
    """The turn that leads all things back."""
    back = [0] * len(turn)
    for thing, place in enumerate(turn):
        back[place] = thing
    return tuple(back)


def length(turn):
    """How often the turn must be done until all things are where they were."""
    stay = stay_of(len(turn))
    done = turn
    times = 1
    while done != stay:
        done = then(done, turn)
        times += 1
    return times


def ring_from(turn, first):
    """The things that are come to from the first one, until it comes round."""
    ring = [first]
    thing = turn[first]
    while thing != first:
        ring.append(thing)
        thing = turn[thing]
    return ring


def rings(turn):
    """The rings of a turn, those of one thing too, in the order of their least things."""
    told = []
    seen = set()
    for first in range(len(turn)):
        if first not in seen:
            ring = ring_from(turn, first)
            told.append(ring)
            for thing in ring:
                seen.add(thing)
    return told


def is_ring(ring, free):
    """Whether ring is a list of one thing or more, each once and each free."""
    if not isinstance(ring, list) or not ring:
        return False
    if not all(is_number(thing, len(free)) for thing in ring):
        return False
    return all(free[thing] for thing in ring) and len(set(ring)) == len(ring)


def turn_of(many, rings):
    """The turn of so many things that has these rings; things in none of them stay."""
    if not can_be_turned(many):
        raise NoTurn(-1)
    turn = list(range(many))
    free = [True] * many
    for at, ring in enumerate(rings):
        if not is_ring(ring, free):
            raise NoTurn(at)
        for thing, place in zip(ring, ring[1:] + ring[:1]):
            turn[thing] = place
            free[thing] = False
    return tuple(turn)
