"""[30]: tables that are one up to the order of kinds."""

import itertools
import random
import unittest

from helpers import (ALT4, ALT5, SEVEN, SQUARE, SYM3, SYM4, SYM4_AND_TWO, check_own, cyclic, house_by, large_houses,
                     numbered_anew, paired_house, quaternions, small_houses, twos)
from heldmarks.alike import same_tables
from heldmarks.kinds import kinds_of
from heldmarks.marks import table_of


def plainly_alike(one, other):
    """Whether some order makes the tables one, by going through all."""
    many = range(len(one))
    return len(one) == len(other) and any(
        all(one[i][j] == other[order[i]][order[j]] for i in many for j in many)
        for order in itertools.permutations(many))


def ordered_anew(table, order):
    """The table that has at order[i], order[j] what this one has at i, j."""
    told = [[None] * len(table) for _ in table]
    for i, row in enumerate(table):
        for j, entry in enumerate(row):
            told[order[i]][order[j]] = entry
    return told


def twisted(many, other, times):
    """The house of pairs (a, b), a below many and b below other: a is led by b times times over."""
    pairs = [(a, b) for a in range(many) for b in range(other)]
    return [[pairs.index(((a * pow(times, d, many) + c) % many, (b + d) % other)) for c, d in pairs] for a, b in pairs]


def houses():
    """Houses with at most sixteen kinds, of many sorts."""
    told = small_houses() + large_houses() + [
        paired_house(cyclic(2), cyclic(4)), paired_house(cyclic(4), cyclic(4)), paired_house(cyclic(3), cyclic(3)),
        paired_house(cyclic(5), cyclic(5)), cyclic(6), cyclic(8), cyclic(16), cyclic(24), twisted(3, 4, 2),
        twisted(4, 4, 3), twisted(8, 2, 5), twisted(8, 2, 3), twisted(8, 2, 7), twisted(5, 4, 2), twisted(5, 4, 4),
        twisted(7, 3, 2), twisted(9, 3, 4), twisted(13, 2, 12), paired_house(quaternions(), cyclic(3)),
        paired_house(house_by(ALT4), cyclic(2)), house_by(SEVEN),
    ]
    return [house for house in told if len(kinds_of(house)) <= 16]


TABLES = [(house, table_of(house, kinds_of(house))) for house in houses()]


class TestSameTables(unittest.TestCase):
    def check_order(self, one, other):
        """The order that is told makes the tables one."""
        told = same_tables(one, other)
        self.assertIsInstance(told, list)
        self.assertEqual(sorted(told), list(range(len(one))))
        for i, row in enumerate(one):
            for j, entry in enumerate(row):
                self.assertEqual(entry, other[told[i]][told[j]])

    def test_of_a_table_and_itself(self):
        for _, table in TABLES:
            self.check_order(table, table)
            self.check_order(table, [list(row) for row in table])

    def test_in_drawn_orders(self):
        draw = random.Random(30)
        for _, table in TABLES:
            for _ in range(6):
                orders = [draw.sample(range(len(table)), len(table)) for _ in range(2)]
                self.check_order(ordered_anew(table, orders[0]), ordered_anew(table, orders[1]))
                self.check_order(table, ordered_anew(table, orders[0]))
                self.check_order(ordered_anew(table, orders[1]), table)

    def test_of_houses_numbered_anew(self):
        draw = random.Random(31)
        for house, table in TABLES:
            order = [0] + draw.sample(range(1, len(house)), len(house) - 1)
            anew = numbered_anew(house, order)
            self.check_order(table, table_of(anew, kinds_of(anew)))

    def test_small_tables_by_going_through_all_orders(self):
        small = [table for _, table in TABLES if len(table) <= 6]
        for one, other in itertools.product(small, repeat=2):
            if plainly_alike(one, other):
                self.check_order(one, other)
            else:
                self.assertIsNone(same_tables(one, other))

    def test_of_unlike_many_kinds(self):
        for (_, one), (_, other) in itertools.product(TABLES, repeat=2):
            if len(one) != len(other):
                self.assertIsNone(same_tables(one, other))

    def test_of_unlike_houses_with_as_many_kinds_and_numbers(self):
        pairs = [(cyclic(6), house_by(SYM3)), (paired_house(cyclic(2), cyclic(4)), house_by(SQUARE)),
                 (cyclic(12), twisted(3, 4, 2)), (twisted(8, 2, 5), twisted(8, 2, 3)),
                 (twisted(5, 4, 2), twisted(5, 4, 4)),
                 (paired_house(quaternions(), cyclic(3)), paired_house(house_by(ALT4), cyclic(2)))]
        for pair in pairs:
            one, other = [table_of(house, kinds_of(house)) for house in pair]
            self.assertEqual((len(pair[0]), len(one)), (len(pair[1]), len(other)))
            self.assertIsNone(same_tables(one, other))
            self.assertIsNone(same_tables(other, one))
            self.assertIsNone(same_tables(one, ordered_anew(other, list(range(len(other)))[::-1])))

    def test_any_two_of_the_tables(self):
        for (_, one), (_, other) in itertools.combinations(TABLES, 2):
            told = same_tables(one, other)
            if told is not None:
                self.check_order(one, other)
            elif len(one) == len(other) <= 8:
                self.assertFalse(plainly_alike(one, other))

    def test_one_entry_otherwise(self):
        for house in [twos(8), paired_house(cyclic(5), cyclic(5)), house_by(SYM4)]:
            table = table_of(house, kinds_of(house))
            order = list(range(len(table)))[::-1]
            for i, j in itertools.product(range(len(table)), repeat=2):
                other = ordered_anew(table, order)
                other[i][j] += 1
                self.assertIsNone(same_tables(table, other))

    def test_entries_changed_for_each_other(self):
        # Each row and each column has the same numbers as before, but now two of the seven kinds of four numbers have
        # two kinds of two in common, where any two had one.
        table = table_of(twos(8), kinds_of(twos(8)))
        i, k = 8, 9
        j = next(j for j in range(1, 8) if table[i][j] and not table[k][j])
        h = next(h for h in range(1, 8) if table[k][h] and not table[i][h])
        other = [list(row) for row in table]
        for place in (j, h):
            other[i][place], other[k][place] = other[k][place], other[i][place]
        for one_side, other_side in [(table, other), (list(zip(*table)), list(zip(*other)))]:
            self.assertEqual(list(map(sorted, one_side)), list(map(sorted, other_side)))
        self.assertIsNone(same_tables(table, other))

    def test_those_that_are_known(self):
        self.assertEqual(same_tables([[1]], [[1]]), [0])
        self.assertIsNone(same_tables([[1]], [[2, 0], [1, 1]]))
        self.assertEqual(same_tables([[2, 0], [1, 1]], [[1, 1], [0, 2]]), [1, 0])
        self.assertEqual(same_tables([[2, 0], [1, 1]], [[2, 0], [1, 1]]), [0, 1])
        self.assertIsNone(same_tables([[2, 0], [1, 1]], [[3, 0], [1, 1]]))
        self.assertIsNone(same_tables([[2, 0], [1, 1]], [[2, 1], [0, 1]]))

    def test_tables_of_more_kinds(self):
        for house in [house_by(SYM4_AND_TWO), twos(16), house_by(ALT5)]:
            table = table_of(house, kinds_of(house))
            self.check_order(table, ordered_anew(table, list(range(len(table)))[::-1]))

    def test_the_list_is_the_askers_own(self):
        for _, table in TABLES[:12]:
            check_own(self, same_tables, [list(row) for row in table], ordered_anew(table, list(range(len(table)))[::-1]))

    def test_what_is_changed_in_place(self):
        one, other = [[2, 0], [1, 1]], [[2, 0], [1, 1]]
        self.assertEqual(same_tables(one, other), [0, 1])
        other[:] = [[1, 1], [0, 2]]
        self.assertEqual(same_tables(one, other), [1, 0])
        one[0][0] = 5
        self.assertIsNone(same_tables(one, other))


if __name__ == "__main__":
    unittest.main()
