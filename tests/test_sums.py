"""[18]: sets side by side and in pairs."""

import copy
import itertools
import unittest

from helpers import (ALT4, ALT5, SQUARE, SYM3, SYM4, SYM4_AND_TWO, check_own, cyclic, house_by, large_houses,
                     quaternions, small_houses, twos)
from plain import plain_counts, plain_share_set, plainly_beside, plainly_paired
from heldmarks.kinds import kinds_of
from heldmarks.marks import table_of
from heldmarks.moved import is_moved, set_of_counts
from heldmarks.pieces import counts_of, marks_of
from heldmarks.solving import marks_by
from heldmarks.sums import beside, pair_counts, paired


def some_sets(house, most):
    """Sets of the house with no more than so many things: none, shares, and some of counts."""
    kinds = kinds_of(house)
    told = [[[] for _ in house]]
    told += [plain_share_set(house, part) for part in kinds if len(house) // len(part) <= most]
    counts = [0] * len(kinds)
    counts[-1] = 2
    counts[-2 if len(kinds) > 1 else -1] = 1
    return told + [set_of_counts(house, kinds, counts)]


class TestBeside(unittest.TestCase):
    def test_by_plain_numbering(self):
        for house in small_houses():
            for one, other in itertools.product(some_sets(house, 12), repeat=2):
                told = beside(one, other)
                self.assertEqual(told, plainly_beside(one, other))
                self.assertIs(is_moved(house, told), True)

    def test_marks_and_counts_are_added(self):
        for house in small_houses():
            kinds = kinds_of(house)
            for one, other in itertools.product(some_sets(house, 12), repeat=2):
                told = beside(one, other)
                self.assertEqual(marks_of(kinds, told),
                                 [a + b for a, b in zip(marks_of(kinds, one), marks_of(kinds, other))])
                self.assertEqual(counts_of(house, kinds, told),
                                 [a + b for a, b in zip(counts_of(house, kinds, one), counts_of(house, kinds, other))])

    def test_those_that_are_known(self):
        self.assertEqual(beside([[0, 1], [1, 0]], [[0], [0]]), [[0, 1, 2], [1, 0, 2]])
        self.assertEqual(beside([[0], [0]], [[0, 1], [1, 0]]), [[0, 1, 2], [0, 2, 1]])
        self.assertEqual(beside([[0]], [[0]]), [[0, 1]])

    def test_without_things(self):
        rows = [[0, 1], [1, 0]]
        self.assertEqual(beside([[], []], rows), rows)
        self.assertEqual(beside(rows, [[], []]), rows)
        self.assertEqual(beside([[], []], [[], []]), [[], []])

    def test_more_than_sixty_things(self):
        house = house_by(ALT5)
        kinds = kinds_of(house)
        one = plain_share_set(house, (0,))
        told = beside(beside(one, one), one)
        self.assertEqual(len(told[0]), 180)
        self.assertIs(is_moved(house, told), True)
        self.assertEqual(counts_of(house, kinds, told), [3] + [0] * 8)

    def test_the_lists_are_the_askers_own(self):
        for one, other in itertools.product(some_sets(house_by(SYM3), 6), repeat=2):
            check_own(self, beside, copy.deepcopy(one), copy.deepcopy(other))

    def test_a_set_beside_itself(self):
        rows = [[0, 1], [1, 0]]
        told = beside(rows, rows)
        self.assertEqual((told, rows), ([[0, 1, 2, 3], [1, 0, 3, 2]], [[0, 1], [1, 0]]))


class TestPaired(unittest.TestCase):
    def test_by_plain_numbering(self):
        for house in small_houses():
            for one, other in itertools.product(some_sets(house, 8), repeat=2):
                told = paired(one, other)
                self.assertEqual(told, plainly_paired(one, other))
                self.assertIs(is_moved(house, told), True)

    def test_sets_of_twelve_things(self):
        house = house_by(ALT4)
        one = plain_share_set(house, (0,))
        told = paired(one, one)
        self.assertEqual(told, plainly_paired(one, one))
        self.assertEqual(len(told[0]), 144)
        self.assertEqual(counts_of(house, kinds_of(house), told), [12, 0, 0, 0, 0])

    def test_marks_are_multiplied(self):
        for house in small_houses():
            kinds = kinds_of(house)
            for one, other in itertools.product(some_sets(house, 12), repeat=2):
                self.assertEqual(marks_of(kinds, paired(one, other)),
                                 [a * b for a, b in zip(marks_of(kinds, one), marks_of(kinds, other))])

    def test_those_that_are_known(self):
        self.assertEqual(paired([[0, 1], [1, 0]], [[0, 1, 2], [0, 2, 1]]),
                         [[0, 1, 2, 3, 4, 5], [3, 5, 4, 0, 2, 1]])
        self.assertEqual(paired([[0, 1, 2], [0, 2, 1]], [[0, 1], [1, 0]]),
                         [[0, 1, 2, 3, 4, 5], [1, 0, 5, 4, 3, 2]])
        self.assertEqual(paired([[0]], [[0, 1]]), [[0, 1]])

    def test_without_things(self):
        rows = [[0, 1], [1, 0]]
        for one, other in [([[], []], rows), (rows, [[], []]), ([[], []], [[], []])]:
            self.assertEqual(paired(one, other), [[], []])

    def test_the_lists_are_the_askers_own(self):
        for one, other in itertools.product(some_sets(house_by(SYM3), 6), repeat=2):
            check_own(self, paired, copy.deepcopy(one), copy.deepcopy(other))

    def test_a_set_that_is_changed_in_place(self):
        one, other = [[0, 1], [1, 0]], [[0], [0]]
        self.assertEqual((beside(one, other), paired(one, other)), ([[0, 1, 2], [1, 0, 2]], [[0, 1], [1, 0]]))
        one[1][:] = [0, 1]
        self.assertEqual((beside(one, other), paired(one, other)), ([[0, 1, 2], [0, 1, 2]], [[0, 1], [0, 1]]))


class TestPairCounts(unittest.TestCase):
    def test_by_counting_the_pairs(self):
        for house in [cyclic(1), cyclic(2), cyclic(7), cyclic(12), twos(4), house_by(SYM3), house_by(SQUARE),
                      quaternions()]:
            kinds = kinds_of(house)
            for i, j in itertools.product(range(len(kinds)), repeat=2):
                pairs = plainly_paired(plain_share_set(house, kinds[i]), plain_share_set(house, kinds[j]))
                told = pair_counts(house, kinds, i, j)
                self.assertIsInstance(told, list)
                self.assertEqual(told, plain_counts(house, kinds, pairs))

    def test_of_more_kinds(self):
        for house in [house_by(ALT4), house_by(SYM4), twos(8), house_by(ALT5)]:
            kinds = kinds_of(house)
            sets = [plain_share_set(house, part) for part in kinds]
            for i, j in itertools.product(range(len(kinds)), repeat=2):
                if len(sets[i][0]) * len(sets[j][0]) <= 400:
                    self.assertEqual(pair_counts(house, kinds, i, j),
                                     counts_of(house, kinds, paired(sets[i], sets[j])))

    def test_of_all_shares_of_sixty_numbers(self):
        house = house_by(ALT5)
        kinds = kinds_of(house)
        self.assertEqual(pair_counts(house, kinds, 0, 0), [60, 0, 0, 0, 0, 0, 0, 0, 0])
        self.assertEqual(pair_counts(house, kinds, 7, 7), [0, 0, 1, 0, 0, 0, 0, 1, 0])
        self.assertEqual(pair_counts(house, kinds, 8, 3), [0, 0, 0, 1, 0, 0, 0, 0, 0])

    def test_they_have_the_marks_multiplied(self):
        for house in large_houses():
            kinds = kinds_of(house)
            table = table_of(house, kinds)
            step = 1 + len(kinds) // 6
            for i in range(0, len(kinds), step):
                for j in range(0, len(kinds), step):
                    counts = pair_counts(house, kinds, i, j)
                    self.assertEqual(marks_by(table, counts), [a * b for a, b in zip(table[i], table[j])])
                    self.assertEqual(counts, pair_counts(house, kinds, j, i))

    def test_those_that_are_known(self):
        house = house_by(SYM3)
        kinds = kinds_of(house)
        self.assertEqual(pair_counts(house, kinds, 1, 1), [1, 1, 0, 0])
        self.assertEqual(pair_counts(house, kinds, 1, 2), [1, 0, 0, 0])
        self.assertEqual(pair_counts(house, kinds, 2, 2), [0, 0, 2, 0])
        self.assertEqual(pair_counts([[0]], [(0,)], 0, 0), [1])

    def test_the_list_is_the_askers_own(self):
        for turns in [SYM3, SYM4_AND_TWO]:
            house = house_by(turns)
            check_own(self, pair_counts, house, kinds_of(house), 1, 2)

    def test_a_house_that_is_changed_in_place(self):
        house = cyclic(6)
        self.assertEqual(pair_counts(house, kinds_of(house), 1, 1), [0, 3, 0, 0])
        house[:] = house_by(SYM3)
        self.assertEqual(pair_counts(house, kinds_of(house), 1, 1), [1, 1, 0, 0])


if __name__ == "__main__":
    unittest.main()
