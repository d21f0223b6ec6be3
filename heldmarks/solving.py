"""Counts and marks: the marks that counts have, and the counts that have given marks."""

from heldmarks.errors import BelowNought, NoSet


def marks_by(table, counts):
    """For each kind j the sum of each count i times the table's number at i, j."""
    return [sum(count * row[j] for count, row in zip(counts, table)) for j in range(len(table))]


def solved(table, marks):
    """The whole numbers, for each kind one, that have these marks.

    The shares of kinds ahead have the mark 0 at a kind, so what those behind leave of its mark is its own.
    """
    counts = [0] * len(table)
    rest = list(marks)
    for kind in reversed(range(len(table))):
        row = table[kind]
        if rest[kind] % row[kind] != 0:
            raise NoSet(kind)
        counts[kind] = rest[kind] // row[kind]
        rest = [left - counts[kind] * entry for left, entry in zip(rest, row)]
    return counts


def counts_by(table, marks):
    """The counts of a set that has these marks."""
    counts = solved(table, marks)
    for kind in reversed(range(len(counts))):
        if counts[kind] < 0:
            raise BelowNought(kind)
    return counts
