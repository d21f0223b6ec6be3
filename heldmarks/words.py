"""Words of texts that are read: numbers and names."""

MOST_FIGURES = 30
MOST_LETTERS = 8
FIGURES = "0123456789"
LETTERS = "abcdefghijklmnopqrstuvwxyz"


def has_only(word, signs):
    """Whether the word has none but these signs."""
    return all(sign in signs for sign in word)


def number_in(word):
    """The number from 0 on that is written so, or None."""
    if not 1 <= len(word) <= MOST_FIGURES or not has_only(word, FIGURES):
        return None
    if word[0] == "0" and word != "0":
        return None
    return int(word)


def signed_number_in(word):
    """The number that is written so, perhaps with a sign ahead, or None."""
    if not word.startswith("-"):
        return number_in(word)
    number = number_in(word[1:])
    return -number if number else None


def numbers_in(words):
    """The numbers from 0 on that are written so, or None where one isn't."""
    numbers = [number_in(word) for word in words]
    return None if None in numbers else numbers


def is_name(word):
    """Whether the word may be the name of a set."""
    return 1 <= len(word) <= MOST_LETTERS and has_only(word, LETTERS)
