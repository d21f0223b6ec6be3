"""[11]: marks, and the table of the kinds."""

import unittest

from helpers import (ALT4, ALT5, SQUARE, SYM3, check_own, cyclic, house_by, large_houses, quaternions,
                     small_houses, twos)
from plain import plain_mark
from heldmarks.kinds import all_parts, kinds_of, many_of
from heldmarks.marks import mark, table_of
from heldmarks.parts import led, stayers

HOUSES = small_houses() + large_houses()


class TestMark(unittest.TestCase):
    def test_by_plainly_counting_shares(self):
        for house in small_houses():
            if len(house) <= 12:
                for part in all_parts(house):
                    for other in all_parts(house):
                        self.assertEqual(mark(house, part, other), plain_mark(house, part, other))

    def test_of_a_house_of_sixty_numbers(self):
        house = house_by(ALT5)
        for part in kinds_of(house):
            for other in all_parts(house)[::7]:
                self.assertEqual(mark(house, part, other), plain_mark(house, part, other))

    def test_it_is_the_same_for_all_parts_of_a_kind(self):
        house = house_by(ALT4)
        for part in kinds_of(house):
            for other in kinds_of(house):
                for number in range(12):
                    self.assertEqual(mark(house, led(house, part, number), other), mark(house, part, other))
                    self.assertEqual(mark(house, part, led(house, other, number)), mark(house, part, other))

    def test_those_that_are_known(self):
        house = house_by(SYM3)
        self.assertEqual(mark(house, (0,), (0,)), 6)
        self.assertEqual(mark(house, (0, 1), (0,)), 3)
        self.assertEqual(mark(house, (0, 1), (0, 5)), 1)
        self.assertEqual(mark(house, (0, 3, 4), (0, 3, 4)), 2)
        self.assertEqual(mark(house, (0, 3, 4), (0, 1)), 0)
        self.assertEqual(mark(house, (0, 1), (0, 3, 4)), 0)
        self.assertEqual(mark([[0]], (0,), (0,)), 1)

    def test_nothing_given_is_changed(self):
        check_own(self, mark, house_by(SYM3), (0, 1), (0, 2))


class TestTableOf(unittest.TestCase):
    def test_each_entry_is_the_mark(self):
        for house in HOUSES:
            kinds = kinds_of(house)
            table = table_of(house, kinds)
            self.assertEqual([len(row) for row in table], [len(kinds)] * len(kinds))
            for i, row in enumerate(table):
                self.assertIsInstance(row, list)
                for j in range(i % 3, len(kinds), 3):
                    self.assertEqual(row[j], plain_mark(house, kinds[i], kinds[j]))

    def test_nought_behind_the_diagonal(self):
        for house in HOUSES:
            for i, row in enumerate(table_of(house, kinds_of(house))):
                self.assertEqual(row[i + 1:], [0] * (len(row) - i - 1))

    def test_the_first_column(self):
        for house in HOUSES:
            kinds = kinds_of(house)
            self.assertEqual([row[0] for row in table_of(house, kinds)], [len(house) // len(part) for part in kinds])

    def test_the_diagonal(self):
        for house in HOUSES:
            kinds = kinds_of(house)
            table = table_of(house, kinds)
            for i, part in enumerate(kinds):
                self.assertEqual(table[i][i], len(stayers(house, part)) // len(part))

    def test_parts_of_the_kind_that_have_the_other_within(self):
        for house in HOUSES:
            kinds = kinds_of(house)
            table = table_of(house, kinds)
            for i, part in enumerate(kinds):
                same = {led(house, part, number) for number in range(len(house))}
                self.assertEqual(len(same), many_of(house, part))
                for j, other in enumerate(kinds):
                    holding = sum(set(other) <= set(found) for found in same)
                    self.assertEqual(table[i][j], holding * table[i][i])

    def test_tables_that_are_known(self):
        self.assertEqual(table_of([[0]], [(0,)]), [[1]])
        self.assertEqual(table_of(cyclic(7), kinds_of(cyclic(7))), [[7, 0], [1, 1]])
        house = house_by(SYM3)
        self.assertEqual(table_of(house, kinds_of(house)), [[6, 0, 0, 0], [3, 1, 0, 0], [2, 0, 2, 0], [1, 1, 1, 1]])
        house = house_by(ALT5)
        self.assertEqual(table_of(house, kinds_of(house)), [
            [60, 0, 0, 0, 0, 0, 0, 0, 0],
            [30, 2, 0, 0, 0, 0, 0, 0, 0],
            [20, 0, 2, 0, 0, 0, 0, 0, 0],
            [15, 3, 0, 3, 0, 0, 0, 0, 0],
            [12, 0, 0, 0, 2, 0, 0, 0, 0],
            [10, 2, 1, 0, 0, 1, 0, 0, 0],
            [6, 2, 0, 0, 1, 0, 1, 0, 0],
            [5, 1, 2, 1, 0, 0, 0, 1, 0],
            [1, 1, 1, 1, 1, 1, 1, 1, 1],
        ])

    def test_quaternions_and_the_square_are_told_apart(self):
        self.assertEqual([row[0] for row in table_of(quaternions(), kinds_of(quaternions()))], [8, 4, 2, 2, 2, 1])
        house = house_by(SQUARE)
        self.assertEqual([row[0] for row in table_of(house, kinds_of(house))], [8, 4, 4, 4, 2, 2, 2, 1])

    def test_the_lists_are_the_askers_own(self):
        for house in [house_by(SYM3), twos(8), [[0]]]:
            check_own(self, table_of, house, kinds_of(house))

    def test_a_house_that_is_changed_in_place(self):
        house = cyclic(6)
        self.assertEqual(mark(house, (0, 3), (0, 3)), 3)
        self.assertEqual(table_of(house, kinds_of(house)), [[6, 0, 0, 0], [3, 3, 0, 0], [2, 0, 2, 0], [1, 1, 1, 1]])
        for row, other in zip(house, house_by(SYM3)):
            row[:] = other
        self.assertEqual(mark(house, (0, 1), (0, 1)), 1)
        self.assertEqual(table_of(house, kinds_of(house)), [[6, 0, 0, 0], [3, 1, 0, 0], [2, 0, 2, 0], [1, 1, 1, 1]])


if __name__ == "__main__":
    unittest.main()
