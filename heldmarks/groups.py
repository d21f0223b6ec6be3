"""Groups: tuples of turns that have with any two the one then the other; and their houses."""

from heldmarks.errors import NoTurn, TooMany
from heldmarks.turns import can_be_turned, is_turn, stay_of, then

MOST_TURNS = 60


def check_turns(many, turns):
    """Refuse the first thing that is no turn of so many things."""
    for at, turn in enumerate(turns):
        if not is_turn(turn) or len(turn) != many:
            raise NoTurn(at)


def turns_grown(many, turns):
    """All turns that come of the stay by some of the given ones, one behind another.

    The contraries are among them: a turn done once less often than its length is its contrary.
    """
    stay = stay_of(many)
    found = [stay]
    seen = {stay}
    at = 0
    while at < len(found):
        for turn in turns:
            grown = then(found[at], turn)
            if grown not in seen:
                if len(found) == MOST_TURNS:
                    raise TooMany()
                seen.add(grown)
                found.append(grown)
        at += 1
    return found


def group_of(many, turns):
    """The least group of turns of so many things that has these turns."""
    if not can_be_turned(many):
        raise NoTurn(-1)
    check_turns(many, turns)
    return tuple(sorted(turns_grown(many, sorted(set(turns)))))


def house_of(group):
    """For each number a of the group, for each number b, the number of a then b."""
    numbers = {turn: number for number, turn in enumerate(group)}
    return [[numbers[then(one, other)] for other in group] for one in group]
