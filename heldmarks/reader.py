"""Texts of turns and of books, read."""

from heldmarks.errors import NoText, NoTurn
from heldmarks.groups import group_of, house_of
from heldmarks.kinds import kinds_of
from heldmarks.texts import show_turn
from heldmarks.turns import can_be_turned, turn_of
from heldmarks.words import is_name, number_in, numbers_in


def rings_in(text):
    """The rings of things that stand in the text, or None where it isn't so written."""
    if text == "()":
        return []
    if not text.startswith("(") or not text.endswith(")"):
        return None
    told = [numbers_in(ring.split(" ")) for ring in text[1:-1].split(") (")]
    return None if None in told else told


def turn_in(many, text):
    """The turn of so many things that is written so, or None."""
    told = rings_in(text)
    if told is None:
        return None
    try:
        turn = turn_of(many, told)
    except NoTurn:
        return None
    # A turn has many rings and orders of them, but just one text.
    return turn if show_turn(turn) == text else None


def read_turn(many, text):
    """The turn of so many things that is written so."""
    turn = turn_in(many, text) if isinstance(text, str) else None
    if turn is None:
        raise NoText(0)
    return turn


def read_things(line):
    """How many things there are, by the first line."""
    words = line.split(" ")
    many = number_in(words[-1])
    if len(words) != 2 or words[0] != "things" or not can_be_turned(many):
        raise NoText(0)
    return many


def is_turn_line(line):
    """Whether the line's first word is turn."""
    return line.split(" ")[0] == "turn"


def read_turns(many, lines):
    """The turns of the lines behind the first, up to one that is no turn's line."""
    turns = []
    at = 1
    while at < len(lines) and is_turn_line(lines[at]):
        turn = turn_in(many, lines[at].removeprefix("turn "))
        if turn is None:
            raise NoText(at)
        turns.append(turn)
        at += 1
    return turns


def set_in(line, many):
    """The name and the counts, so many, that stand in the line; or None."""
    words = line.split(" ")
    if words[0] != "set" or len(words) != many + 2 or not is_name(words[1]):
        return None
    counts = numbers_in(words[2:])
    return None if counts is None else (words[1], counts)


def read_sets(lines, first, many):
    """The sets of the lines from the first of them on, with so many counts each."""
    sets = []
    names = set()
    for at in range(first, len(lines)):
        told = set_in(lines[at], many)
        if told is None or told[0] in names:
            raise NoText(at)
        names.add(told[0])
        sets.append(told)
    return sets


def read_book(text):
    """How many things there are, the turns, and the sets as tuples of a name and counts."""
    if not isinstance(text, str):
        raise NoText(0)
    lines = text.split("\n")
    many = read_things(lines[0])
    turns = read_turns(many, lines)
    kinds = kinds_of(house_of(group_of(many, turns)))
    return many, turns, read_sets(lines, len(turns) + 1, len(kinds))
