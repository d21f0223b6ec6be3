"""Whole numbers, for all modules: truths are ints for Python, but no numbers here; and powers."""


def is_whole(thing):
    """Whether thing is an int that is no truth."""
    return isinstance(thing, int) and not isinstance(thing, bool)


def is_number(thing, many):
    """Whether thing is one of the numbers from 0 to many - 1."""
    return is_whole(thing) and 0 <= thing < many


def has_each_once(things, many):
    """Whether things, a list or a tuple, are the numbers from 0 to many - 1, each once."""
    if len(things) != many:
        return False
    # All must be numbers before they are gathered: of a list no set can be made.
    return all(is_number(thing, many) for thing in things) and len(set(things)) == many


def power(base, times):
    """The base to the power of times; 0 to the power of 0 is 1.

    By squares, so that 0 and 1 to the power of a number of many figures come to an end, too.
    """
    told = 1
    square = base
    left = times
    while left > 0:
        if left % 2 == 1:
            told *= square
        left //= 2
        # Behind the last one no square is needed, and it might be by far the largest number.
        if left > 0:
            square *= square
    return told
