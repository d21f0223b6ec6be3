"""Within a part: its own house, where the kinds of that one lie, and sets seen through the part."""

from heldmarks.kinds import KindFinder, kinds_of
from heldmarks.marks import table_of
from heldmarks.solving import marks_by, solved


def house_of_part(house, part):
    """The house of the part's numbers, each numbered by its place in the part."""
    places = {number: place for place, number in enumerate(part)}
    return [[places[house[a][b]] for b in part] for a in part]


def where_they_lie(house, kinds, part, inner_kinds):
    """For each of these kinds of the part's house the kind of the whole house that has the same numbers."""
    finder = KindFinder(house, kinds)
    return [finder.number_of(tuple(part[place] for place in inner)) for inner in inner_kinds]


def lie_in(house, kinds, part):
    """For each kind of the part's house the kind of the whole house where it lies."""
    return where_they_lie(house, kinds, part, kinds_of(house_of_part(house, part)))


def seen(house, kinds, part, counts):
    """The counts, by the kinds of the part's house, that have the marks of these counts where those kinds lie."""
    inner_house = house_of_part(house, part)
    inner_kinds = kinds_of(inner_house)
    marks = marks_by(table_of(house, kinds), counts)
    lie_at = where_they_lie(house, kinds, part, inner_kinds)
    return solved(table_of(inner_house, inner_kinds), [marks[kind] for kind in lie_at])


def seen_set(rows, part):
    """The set as the part's house moves it."""
    return [list(rows[number]) for number in part]
