"""The rows that a desk is told: which there are, and how their words are written."""

from heldmarks.errors import NoName, NoNumber, NoRow
from heldmarks.words import is_name, number_in, signed_number_in

# Behind each first word: K a kind's number, C a number from 0 on, M any whole number, NAME the name of a set that
# stands, NEW any name; two dots behind a sign: for each kind one.
FORMS = {
    "book": (),
    "turns": (),
    "parts": (),
    "kinds": (),
    "kind": ("K",),
    "mark": ("K", "K"),
    "row": ("K",),
    "marks": ("NAME",),
    "counts": ("NAME",),
    "set": ("NEW", "C.."),
    "beside": ("NEW", "NAME", "NAME"),
    "pair": ("NEW", "NAME", "NAME"),
    "colours": ("NEW", "C"),
    "patterns": ("C",),
    "solve": ("M..",),
    "uneven": ("M..",),
    "ways": ("NAME", "NAME"),
    "drop": ("NAME",),
    "back": (),
}


def signs_behind(first, many):
    """The signs of the words behind the first one, where there are so many kinds; None where no row begins so."""
    if first not in FORMS:
        return None
    told = []
    for sign in FORMS[first]:
        if sign.endswith(".."):
            told.extend([sign[0]] * many)
        else:
            told.append(sign)
    return told


def value_of(sign, word):
    """What the word tells where this sign stands, a name as it is written; None where it isn't written so."""
    if sign in ("NAME", "NEW"):
        return word
    return signed_number_in(word) if sign == "M" else number_in(word)


def check_values(signs, values, many, sets):
    """Refuse, from the left, what is no number of so many kinds, no name of these sets, and no name."""
    for sign, value in zip(signs, values):
        if sign == "K" and value >= many:
            raise NoNumber()
        if sign == "NAME" and value not in sets:
            raise NoName()
        if sign == "NEW" and not is_name(value):
            raise NoName()


def read_row(row, many, sets):
    """The row's first word, and what the words behind it tell, where there are so many kinds and these sets stand."""
    if not isinstance(row, str):
        raise NoRow()
    first, *words = row.split(" ")
    signs = signs_behind(first, many)
    if signs is None or len(words) != len(signs):
        raise NoRow()
    values = [value_of(sign, word) for sign, word in zip(signs, words)]
    if None in values:
        raise NoRow()
    check_values(signs, values, many, sets)
    return first, values
