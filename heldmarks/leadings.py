"""Leadings of one house into another, and sets that are seen through them or grow along them."""

from heldmarks.errors import NoLeading
from heldmarks.kinds import KindFinder, kinds_of
from heldmarks.marks import table_of
from heldmarks.solving import marks_by, solved
from heldmarks.whole import is_number


def are_numbers(things, many):
    """Whether each of the things is one of the numbers from 0 to many - 1."""
    return all(is_number(thing, many) for thing in things)


def is_leading(house, other, thing):
    """Whether thing, whatever it is, is a leading of the house into the other one."""
    if not isinstance(thing, tuple) or len(thing) != len(house) or not are_numbers(thing, len(other)):
        return False
    for row, goal in zip(house, thing):
        if [thing[number] for number in row] != [other[goal][step] for step in thing]:
            return False
    return True


def check_goals(house, other, numbers, goals):
    """Refuse what are no two lists, equally long, of numbers of the house and of the other one."""
    if not isinstance(numbers, list) or not isinstance(goals, list) or len(numbers) != len(goals):
        raise NoLeading()
    if not are_numbers(numbers, len(house)) or not are_numbers(goals, len(other)):
        raise NoLeading()


def leading_of(house, other, numbers, goals):
    """The leading by which these numbers go to these goals.

    From 0 on each number that is come to is led on by each of the numbers. Where all are come to, and what is come to
    twice goes to one goal, a then b goes along for each b of the numbers, and so for any b.
    """
    check_goals(house, other, numbers, goals)
    found = [0]
    goal_of = {0: 0}
    at = 0
    while at < len(found):
        for number, goal in zip(numbers, goals):
            come_to = house[found[at]][number]
            led_to = other[goal_of[found[at]]][goal]
            if come_to not in goal_of:
                goal_of[come_to] = led_to
                found.append(come_to)
            elif goal_of[come_to] != led_to:
                raise NoLeading()
        at += 1
    if len(found) != len(house):
        raise NoLeading()
    return tuple(goal_of[number] for number in range(len(house)))


def core(leading):
    """The part of the numbers that go to 0."""
    return tuple(number for number, goal in enumerate(leading) if goal == 0)


def image(leading, part):
    """The part of all numbers to which the part goes."""
    return tuple(sorted({leading[number] for number in part}))


def seen_by(rows, leading):
    """The set as the first house moves it: each number leads as the one to which it goes."""
    return [list(rows[goal]) for goal in leading]


def where_images_lie(other, other_kinds, leading, kinds):
    """For each of these kinds of the first house the kind of its part's image."""
    finder = KindFinder(other, other_kinds)
    return [finder.number_of(image(leading, part)) for part in kinds]


def seen_counts(house, other, leading, counts):
    """Counts by the kinds of the other house, told by those of the first one.

    What a part of the first house holds still is what its image holds still.
    """
    kinds, other_kinds = kinds_of(house), kinds_of(other)
    marks = marks_by(table_of(other, other_kinds), counts)
    lie_at = where_images_lie(other, other_kinds, leading, kinds)
    return solved(table_of(house, kinds), [marks[kind] for kind in lie_at])


def grown_counts(house, other, leading, counts):
    """Counts by the kinds of the first house, grown along the leading: pieces go to the kinds of the images."""
    kinds, other_kinds = kinds_of(house), kinds_of(other)
    told = [0] * len(other_kinds)
    for kind, count in zip(where_images_lie(other, other_kinds, leading, kinds), counts):
        told[kind] += count
    return told
