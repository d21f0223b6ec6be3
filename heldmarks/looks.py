"""A look at a paper: whether it is right is seen from what stands in it, whoever wrote it."""

from heldmarks.marks import holds_still
from heldmarks.parts import is_part, led, part_of
from heldmarks.shares import shares
from heldmarks.whole import is_number, is_whole


def is_list_of(thing, many):
    """Whether thing is a list of just so many entries."""
    return isinstance(thing, list) and len(thing) == many


def is_square(thing, many):
    """Whether thing is a list of so many lists of so many entries."""
    return is_list_of(thing, many) and all(is_list_of(row, many) for row in thing)


def are_parts(house, thing):
    """Whether thing is a list of parts of the house, (0,) among them."""
    return isinstance(thing, list) and all(is_part(house, part) for part in thing) and (0,) in thing


def sets_kinds_apart(table):
    """Whether the table has whole numbers alone, and 0 at i, j or at j, i for any two unlike places."""
    # A truth would pass for 0, so all must be seen to be whole numbers ahead.
    if not all(is_whole(entry) for row in table for entry in row):
        return False
    return all(table[i][j] == 0 or table[j][i] == 0 for i in range(len(table)) for j in range(i))


def is_growth(house, parts, part, number, entry):
    """Whether the entry tells where the part of the part's numbers and the number is led."""
    if not isinstance(entry, tuple) or len(entry) != 2:
        return False
    place, mover = entry
    if not is_number(place, len(parts)) or not is_number(mover, len(house)):
        return False
    return led(house, part_of(house, [*part, number]), mover) == parts[place]


def are_growths(house, parts, part, row):
    """Whether the row tells for each number how the part is grown by it."""
    if not is_list_of(row, len(house)):
        return False
    return all(is_growth(house, parts, part, number, entry) for number, entry in enumerate(row))


def is_grown(house, parts, grown):
    """Whether grown tells of each part how it is grown."""
    if not is_list_of(grown, len(parts)):
        return False
    return all(are_growths(house, parts, part, row) for part, row in zip(parts, grown))


def is_mover(house, places, number, other, entry):
    """Whether the entry is a number of the other part that moves the number's share, or None where none does."""
    if entry is None:
        return holds_still(house, places, number, other)
    if not is_number(entry, len(house)) or entry not in other:
        return False
    return places[house[number][entry]] != places[number]


def are_movers(house, told, other, movers, many):
    """Whether the movers are right for the shares, told as a tuple of two lists, and None so many times."""
    least, places = told
    if not is_list_of(movers, len(least)):
        return False
    if not all(is_mover(house, places, number, other, entry) for number, entry in zip(least, movers)):
        return False
    return movers.count(None) == many


def is_moved_row(house, parts, part, moved_row, table_row):
    """Whether the rows tell for each part what it moves of the shares of this part, and how many it doesn't."""
    told = shares(house, part)
    for other, movers, many in zip(parts, moved_row, table_row):
        if not are_movers(house, told, other, movers, many):
            return False
    return True


def lets_by(house, thing):
    """Whether thing, whatever it is, is a right paper with one part of each kind."""
    if not isinstance(thing, tuple) or len(thing) != 4:
        return False
    parts, grown, moved, table = thing
    if not are_parts(house, parts) or not is_square(moved, len(parts)) or not is_square(table, len(parts)):
        return False
    if not sets_kinds_apart(table) or not is_grown(house, parts, grown):
        return False
    for part, moved_row, table_row in zip(parts, moved, table):
        if not is_moved_row(house, parts, part, moved_row, table_row):
            return False
    return True
