"""Parts of a house: tuples of its numbers, rising, with 0 and with any two the one then the other."""

from heldmarks.errors import NoNumber
from heldmarks.whole import is_number


def check_number(house, thing):
    """Refuse what is no number of the house."""
    if not is_number(thing, len(house)):
        raise NoNumber()


def part_of(house, numbers):
    """The least part that has all these numbers.

    It is enough to take them one behind another, from 0 on: lengths come to an end, so contraries come too.
    """
    for number in numbers:
        check_number(house, number)
    movers = sorted(set(numbers))
    found = [0]
    seen = {0}
    at = 0
    while at < len(found):
        for mover in movers:
            come_to = house[found[at]][mover]
            if come_to not in seen:
                seen.add(come_to)
                found.append(come_to)
        at += 1
    return tuple(sorted(found))


def makers_of(house):
    """Numbers whose part is the whole house, none of them in the part of those ahead."""
    makers = []
    part = (0,)
    for number in range(len(house)):
        if number not in part:
            makers.append(number)
            part = part_of(house, makers)
    return makers


def rises_from_nought(house, numbers):
    """Whether these are numbers of the house, 0 first, each more than the one ahead."""
    if not numbers or not all(is_number(number, len(house)) for number in numbers):
        return False
    return numbers[0] == 0 and all(one < other for one, other in zip(numbers, numbers[1:]))


def is_part(house, thing):
    """Whether thing, whatever it is, is a part of the house."""
    if not isinstance(thing, tuple) or not rises_from_nought(house, thing):
        return False
    within = set(thing)
    for one in thing:
        for other in thing:
            if house[one][other] not in within:
                return False
    return True


def led(house, part, number):
    """The part led by the number."""
    check_number(house, number)
    back = house[number].index(0)
    return tuple(sorted(house[house[back][inner]][number] for inner in part))


def stayers(house, part):
    """The part of the numbers that lead the part to itself."""
    return tuple(number for number in range(len(house)) if led(house, part, number) == part)


def common(one, other):
    """The part of the numbers that are in both parts."""
    return tuple(number for number in one if number in other)
