"""[17]: marks of counts, and counts of marks."""

import itertools
import unittest
from fractions import Fraction

from helpers import (ALT4, ALT5, SQUARE, SYM3, SYM4, check_own, check_refused, cyclic, house_by, large_houses,
                     quaternions, small_houses, twos)
from heldmarks.errors import BelowNought, NoSet
from heldmarks.kinds import kinds_of
from heldmarks.marks import table_of
from heldmarks.moved import set_of_counts
from heldmarks.pieces import counts_of, marks_of
from heldmarks.solving import counts_by, marks_by, solved

SYM3_TABLE = [[6, 0, 0, 0], [3, 1, 0, 0], [2, 0, 2, 0], [1, 1, 1, 1]]
BIG = 10 ** 30 - 7


TABLES = [table_of(house, kinds_of(house)) for house in small_houses() + large_houses()]


def some_counts(many):
    """Rows of so many whole numbers: small, below 0, and of up to thirty figures."""
    return [
        [0] * many, [1] * many, [-1] * many, list(range(many)), list(range(-3, many - 3)),
        [(-1) ** at * at * at for at in range(many)], [BIG - at for at in range(many)], [-BIG + at for at in range(many)],
        [(-1) ** at * (BIG // (at + 1)) for at in range(many)], [0] * (many - 1) + [BIG], [-BIG] + [0] * (many - 1),
    ]


def plainly_solved(table, marks):
    """The numbers as fractions, by the rule that the table has 0 behind its diagonal."""
    many = len(table)
    told = [Fraction(0)] * many
    for kind in range(many - 1, -1, -1):
        behind = sum(told[i] * table[i][kind] for i in range(kind + 1, many))
        told[kind] = (Fraction(marks[kind]) - behind) / table[kind][kind]
    return told


def uneven_kinds(table, marks):
    return [kind for kind, number in enumerate(plainly_solved(table, marks)) if number.denominator != 1]


class TestMarksBy(unittest.TestCase):
    def test_sums_of_products(self):
        for table in TABLES:
            for counts in some_counts(len(table)):
                told = marks_by(table, counts)
                self.assertIsInstance(told, list)
                self.assertEqual(told, [sum(counts[i] * table[i][j] for i in range(len(table)))
                                        for j in range(len(table))])

    def test_they_are_the_marks_of_the_set(self):
        house = house_by(SYM3)
        kinds = kinds_of(house)
        for counts in itertools.product(range(3), repeat=4):
            rows = set_of_counts(house, kinds, list(counts))
            self.assertEqual(marks_by(table_of(house, kinds), list(counts)), marks_of(kinds, rows))

    def test_those_that_are_known(self):
        self.assertEqual(marks_by([[1]], [-5]), [-5])
        self.assertEqual(marks_by(SYM3_TABLE, [1, 1, 1, 1]), [12, 2, 3, 1])
        self.assertEqual(marks_by(SYM3_TABLE, [0, 2, 0, -1]), [5, 1, -1, -1])
        self.assertEqual(marks_by(SYM3_TABLE, [0, 0, BIG, 0]), [2 * BIG, 0, 2 * BIG, 0])

    def test_the_list_is_the_askers_own(self):
        check_own(self, marks_by, table_of(cyclic(6), kinds_of(cyclic(6))), [3, -1, 4, 1])


class TestSolved(unittest.TestCase):
    def test_it_gives_the_counts_back(self):
        for table in TABLES:
            for counts in some_counts(len(table)):
                told = solved(table, marks_by(table, counts))
                self.assertIsInstance(told, list)
                self.assertEqual(told, counts)

    def test_marks_are_theirs_or_they_are_refused(self):
        # The first kind at which it isn't whole, from the last one on: those behind it are whole yet.
        for house in [cyclic(4), twos(4), house_by(SYM3), house_by(ALT4)]:
            table = table_of(house, kinds_of(house))
            for marks in itertools.product(range(-1, 3), repeat=len(table)):
                uneven = uneven_kinds(table, marks)
                if uneven:
                    check_refused(self, NoSet, solved, table, list(marks), at=uneven[-1])
                else:
                    self.assertEqual(marks_by(table, solved(table, list(marks))), list(marks))

    def test_of_any_whole_numbers(self):
        for table in TABLES:
            for marks in some_counts(len(table)):
                uneven = uneven_kinds(table, marks)
                if uneven:
                    check_refused(self, NoSet, solved, table, marks, at=uneven[-1])
                else:
                    self.assertEqual(solved(table, marks), plainly_solved(table, marks))

    def test_one_more_at_each_kind(self):
        for table in TABLES:
            for kind in range(len(table)):
                counts = some_counts(len(table))[8]
                marks = marks_by(table, counts)
                marks[kind] += 1
                if table[kind][kind] > 1:
                    check_refused(self, NoSet, solved, table, marks, at=kind)
                else:
                    uneven = uneven_kinds(table, marks)
                    if uneven:
                        self.assertLess(uneven[-1], kind)
                        check_refused(self, NoSet, solved, table, marks, at=uneven[-1])
                    else:
                        self.assertEqual(solved(table, marks)[kind], counts[kind] + 1)

    def test_those_that_are_known(self):
        self.assertEqual(solved([[1]], [-BIG]), [-BIG])
        self.assertEqual(solved(SYM3_TABLE, [12, 2, 3, 1]), [1, 1, 1, 1])
        self.assertEqual(solved(SYM3_TABLE, [5, 1, -1, -1]), [0, 2, 0, -1])
        self.assertEqual(solved(SYM3_TABLE, [0, 0, 0, 0]), [0, 0, 0, 0])
        check_refused(self, NoSet, solved, SYM3_TABLE, [1, 0, 0, 0], at=0)
        check_refused(self, NoSet, solved, SYM3_TABLE, [0, 0, 1, 0], at=2)
        check_refused(self, NoSet, solved, SYM3_TABLE, [0, 1, 0, 0], at=0)
        check_refused(self, NoSet, solved, SYM3_TABLE, [0, 0, 0, 1], at=2)
        check_refused(self, NoSet, solved, SYM3_TABLE, [0, 0, -1, 0], at=2)

    def test_the_list_is_the_askers_own(self):
        check_own(self, solved, [list(row) for row in SYM3_TABLE], [5, 1, -1, -1])


class TestCountsBy(unittest.TestCase):
    def test_of_marks_of_sets(self):
        house = house_by(SQUARE)
        kinds = kinds_of(house)
        table = table_of(house, kinds)
        for counts in itertools.product(range(2), repeat=8):
            rows = set_of_counts(house, kinds, list(counts))
            told = counts_by(table, marks_of(kinds, rows))
            self.assertEqual(told, list(counts))
            self.assertEqual(told, counts_of(house, kinds, rows))

    def test_of_counts_of_many_figures(self):
        for table in TABLES:
            counts = [BIG - at for at in range(len(table))]
            self.assertEqual(counts_by(table, marks_by(table, counts)), counts)

    def test_refusals_in_their_order(self):
        # A number that isn't whole is refused first, also where one behind it is below 0.
        for house, numbers in [(cyclic(4), range(-3, 6)), (twos(4), range(-2, 3)), (house_by(SYM3), range(-2, 4)),
                               (quaternions(), (-1, 0, 1))]:
            table = table_of(house, kinds_of(house))
            for marks in itertools.product(numbers, repeat=len(table)):
                uneven = uneven_kinds(table, marks)
                below = [kind for kind, number in enumerate(plainly_solved(table, marks)) if number < 0]
                if uneven:
                    check_refused(self, NoSet, counts_by, table, list(marks), at=uneven[-1])
                elif below:
                    check_refused(self, BelowNought, counts_by, table, list(marks), at=below[-1])
                else:
                    self.assertEqual(counts_by(table, list(marks)), plainly_solved(table, marks))

    def test_below_nought_at_the_last_such_kind(self):
        for table in TABLES:
            for counts in some_counts(len(table)):
                below = [kind for kind, count in enumerate(counts) if count < 0]
                if below:
                    check_refused(self, BelowNought, counts_by, table, marks_by(table, counts), at=below[-1])
                else:
                    self.assertEqual(counts_by(table, marks_by(table, counts)), counts)

    def test_below_nought_at_each_kind_alone(self):
        for house in [house_by(SYM4), house_by(ALT5)]:
            table = table_of(house, kinds_of(house))
            for kind in range(len(table)):
                counts = [5] * len(table)
                counts[kind] = -1
                check_refused(self, BelowNought, counts_by, table, marks_by(table, counts), at=kind)

    def test_those_that_are_known(self):
        self.assertEqual(counts_by(SYM3_TABLE, [12, 2, 3, 1]), [1, 1, 1, 1])
        check_refused(self, BelowNought, counts_by, SYM3_TABLE, [5, 1, -1, -1], at=3)
        check_refused(self, BelowNought, counts_by, SYM3_TABLE, [-6, 0, 0, 0], at=0)
        check_refused(self, BelowNought, counts_by, SYM3_TABLE, marks_by(SYM3_TABLE, [-1, -1, 4, 0]), at=1)
        check_refused(self, NoSet, counts_by, SYM3_TABLE, [0, 0, 0, -1], at=2)
        check_refused(self, NoSet, counts_by, SYM3_TABLE, [1, 0, 0, 0], at=0)

    def test_the_list_is_the_askers_own(self):
        check_own(self, counts_by, [list(row) for row in SYM3_TABLE], [12, 2, 3, 1])

    def test_what_is_changed_in_place(self):
        table = [list(row) for row in SYM3_TABLE]
        marks = [12, 2, 3, 1]
        self.assertEqual(counts_by(table, marks), [1, 1, 1, 1])
        marks[0] += 6
        self.assertEqual(counts_by(table, marks), [2, 1, 1, 1])
        table[:] = [[2, 0], [1, 1]]
        self.assertEqual((counts_by(table, [4, 2]), solved(table, [4, 2]), marks_by(table, [1, 2])),
                         ([1, 2], [1, 2], [4, 2]))


if __name__ == "__main__":
    unittest.main()
