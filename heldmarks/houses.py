"""Houses: for each number a, for each number b, the number of a then b."""

from heldmarks.whole import has_each_once

MOST_NUMBERS = 60


def rows_have_each_once(rows):
    """Whether each of the rows is a list with each number below their many once."""
    return all(isinstance(row, list) and has_each_once(row, len(rows)) for row in rows)


def columns_of(house):
    """The columns of a house as lists."""
    return [[row[b] for row in house] for b in range(len(house))]


def nought_stays(house):
    """Whether 0 then a and a then 0 are a."""
    return all(house[0][a] == a and house[a][0] == a for a in range(len(house)))


def binds_alike(house):
    """Whether (a then b) then c is a then (b then c), for any a, b, c."""
    for row in house:
        for b, ahead in enumerate(row):
            if house[ahead] != [row[behind] for behind in house[b]]:
                return False
    return True


def is_house(thing):
    """Whether thing, whatever it is, is a list of one to sixty lists that keep the rules of a house."""
    if not isinstance(thing, list) or not 1 <= len(thing) <= MOST_NUMBERS:
        return False
    if not rows_have_each_once(thing):
        return False
    return nought_stays(thing) and rows_have_each_once(columns_of(thing)) and binds_alike(thing)


def contraries(house):
    """For each number the one that with it, it then the other, is 0."""
    return [row.index(0) for row in house]


def length_in(house, number):
    """How often the number must be taken until 0 is come to."""
    come_to = number
    times = 1
    while come_to != 0:
        come_to = house[come_to][number]
        times += 1
    return times


def lengths(house):
    """For each number its length."""
    return [length_in(house, number) for number in range(len(house))]
