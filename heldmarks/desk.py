"""A desk: it keeps the sets of a book, and answers rows that it is told."""

from heldmarks.colours import patterns, patterns_by
from heldmarks.errors import BelowNought, NoBack, NoSet
from heldmarks.forms import read_row
from heldmarks.groups import group_of, house_of
from heldmarks.grown import ways
from heldmarks.kinds import all_parts, kinds_of, many_of
from heldmarks.marks import table_of
from heldmarks.moved import set_of_things
from heldmarks.reader import read_book
from heldmarks.rests import first_uneven
from heldmarks.solving import counts_by, marks_by
from heldmarks.texts import show_book, show_numbers


def tell_book(desk, values):
    """The text of the book with the sets that stand."""
    return show_book(desk.many, desk.turns, list(desk.sets.items()))


def tell_turns(desk, values):
    """How many turns the group has."""
    return str(len(desk.house))


def tell_parts(desk, values):
    """How many parts the house has."""
    return str(len(all_parts(desk.house)))


def tell_kinds(desk, values):
    """How many kinds the house has."""
    return str(len(desk.kinds))


def tell_kind(desk, values):
    """How many numbers the kind's part has, and how many parts are of the kind."""
    part = desk.kinds[values[0]]
    return show_numbers([len(part), many_of(desk.house, part)])


def tell_mark(desk, values):
    """The table's number at the two kinds."""
    i, j = values
    return str(desk.table[i][j])


def tell_row(desk, values):
    """The table's numbers of the kind."""
    return show_numbers(desk.table[values[0]])


def tell_marks(desk, values):
    """The marks of the set."""
    return show_numbers(marks_by(desk.table, desk.sets[values[0]]))


def tell_counts(desk, values):
    """The counts of the set."""
    return show_numbers(desk.sets[values[0]])


def tell_patterns(desk, values):
    """How many patterns of so many colours the things have in all."""
    return str(patterns(desk.things, values[0]))


def tell_solved(desk, values):
    """The counts that have these marks, or at which kind it shows that there are none."""
    try:
        return show_numbers(counts_by(desk.table, values))
    except NoSet as unsolved:
        return f"none {unsolved.at}"
    except BelowNought as below:
        return f"below {below.at}"


def tell_uneven(desk, values):
    """The first uneven kind of these marks."""
    kind = first_uneven(desk.house, desk.kinds, values)
    return "none" if kind is None else str(kind)


def tell_ways(desk, values):
    """How many ways lead the one set into the other."""
    one, other = values
    return str(ways(desk.sets[one], marks_by(desk.table, desk.sets[other])))


def keep_past(desk):
    """Keep the sets as they are, for a way back; counts are never changed, so their lists need no copies."""
    desk.past.append(dict(desk.sets))


def put(desk, name, counts):
    """Give the name these counts, at its place where it stands already, else behind all."""
    keep_past(desk)
    desk.sets[name] = counts
    return "ok"


def put_set(desk, values):
    """A set of these counts."""
    return put(desk, values[0], values[1:])


def put_beside(desk, values):
    """Two sets side by side."""
    new, one, other = values
    return put(desk, new, [a + b for a, b in zip(desk.sets[one], desk.sets[other])])


def put_pair(desk, values):
    """Two sets in pairs: their marks are multiplied."""
    new, one, other = values
    marks = marks_by(desk.table, desk.sets[one])
    other_marks = marks_by(desk.table, desk.sets[other])
    return put(desk, new, counts_by(desk.table, [a * b for a, b in zip(marks, other_marks)]))


def put_colours(desk, values):
    """The colourings of the things with so many colours."""
    new, colours = values
    return put(desk, new, patterns_by(desk.house, desk.kinds, desk.things, colours))


def drop(desk, values):
    """The set stands no longer."""
    keep_past(desk)
    del desk.sets[values[0]]
    return "ok"


def go_back(desk, values):
    """The sets as they were ahead of the last deed."""
    if not desk.past:
        raise NoBack()
    desk.sets = desk.past.pop()
    return "ok"


ANSWERS = {
    "book": tell_book,
    "turns": tell_turns,
    "parts": tell_parts,
    "kinds": tell_kinds,
    "kind": tell_kind,
    "mark": tell_mark,
    "row": tell_row,
    "marks": tell_marks,
    "counts": tell_counts,
    "set": put_set,
    "beside": put_beside,
    "pair": put_pair,
    "colours": put_colours,
    "patterns": tell_patterns,
    "solve": tell_solved,
    "uneven": tell_uneven,
    "ways": tell_ways,
    "drop": drop,
    "back": go_back,
}


class Desk:
    """Made of a book's text; it keeps the book's sets, and what comes of them."""

    def __init__(self, text):
        many, turns, sets = read_book(text)
        group = group_of(many, turns)
        self.many = many
        self.turns = turns
        self.things = set_of_things(group)
        self.house = house_of(group)
        self.kinds = kinds_of(self.house)
        self.table = table_of(self.house, self.kinds)
        self.sets = dict(sets)
        self.past = []

    def say(self, row):
        """The answer to the row."""
        first, values = read_row(row, len(self.kinds), self.sets)
        answer = ANSWERS[first]
        return answer(self, values)
