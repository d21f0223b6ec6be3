"""[15] and [16]: pieces, holders, counts and marks of moved sets."""

import copy
import itertools
import unittest

from helpers import (ALT4, ALT5, SEVEN, SQUARE, SYM3, SYM4, SYM4_AND_TWO, check_own, cyclic, house_by, large_houses,
                     quaternions, small_houses, twos)
from plain import (plain_counts, plain_holder, plain_marks, plain_pieces, plain_share_set, plainly_beside,
                   plainly_paired, same_kind)
from heldmarks.groups import group_of, house_of
from heldmarks.kinds import all_parts, kinds_of
from heldmarks.marks import table_of
from heldmarks.moved import set_of_counts, set_of_shares, set_of_things
from heldmarks.parts import is_part
from heldmarks.pieces import counts_of, holder, marks_of, pieces


def named_anew(rows, names):
    """The set in which the thing x became names[x]."""
    return [[names[row[names.index(x)]] for x in range(len(names))] for row in rows]


def some_sets():
    """Houses, and sets that they move: of shares, of things, of counts, in pairs, mixed, and without things."""
    for house in small_houses():
        kinds = kinds_of(house)
        yield house, [[] for _ in house]
        for part in kinds:
            yield house, set_of_shares(house, part)
        some = set_of_counts(house, kinds, [at % 3 if len(part) * 4 > len(house) else 0
                                            for at, part in enumerate(kinds)])
        yield house, some
        things = len(some[0])
        yield house, named_anew(some, [thing * 2 if thing * 2 < things else (things - thing) * 2 - 1
                                       for thing in range(things)])
        shares = set_of_shares(house, kinds[len(kinds) // 2])
        yield house, plainly_paired(shares, shares)
    for turns in [SYM3, SYM4, ALT4, SQUARE, SYM4_AND_TWO, SEVEN, [(0, 1, 2)], [(1, 0, 2, 3, 4), (0, 1, 2, 4, 3)]]:
        group = group_of(len(turns[0]), turns)
        yield house_of(group), set_of_things(group)


SETS = list(some_sets())


class TestPieces(unittest.TestCase):
    def test_by_joining_things(self):
        for _, rows in SETS:
            told = pieces(rows)
            self.assertIsInstance(told, list)
            self.assertEqual(told, plain_pieces(rows))

    def test_rising_and_in_the_order_of_their_first_things(self):
        for _, rows in SETS:
            told = pieces(rows)
            self.assertEqual(told, sorted(sorted(piece) for piece in told))
            self.assertEqual(sorted(thing for piece in told for thing in piece), list(range(len(rows[0]))))

    def test_those_that_are_known(self):
        self.assertEqual(pieces([[], []]), [])
        self.assertEqual(pieces([[0, 1, 2]]), [[0], [1], [2]])
        self.assertEqual(pieces([[0, 1, 2, 3], [2, 1, 0, 3]]), [[0, 2], [1], [3]])
        self.assertEqual(pieces([[0, 1, 2, 3], [3, 2, 1, 0]]), [[0, 3], [1, 2]])
        group = group_of(6, SYM4_AND_TWO)
        self.assertEqual(pieces(set_of_things(group)), [[0, 1, 2, 3], [4, 5]])

    def test_one_piece_of_shares(self):
        for house in large_houses():
            for part in kinds_of(house):
                many = len(house) // len(part)
                self.assertEqual(pieces(set_of_shares(house, part)), [list(range(many))])

    def test_the_lists_are_the_askers_own(self):
        for _, rows in SETS:
            check_own(self, pieces, copy.deepcopy(rows))


class TestHolder(unittest.TestCase):
    def test_of_each_thing(self):
        for house, rows in SETS:
            for thing in range(len(rows[0])):
                told = holder(rows, thing)
                self.assertIsInstance(told, tuple)
                self.assertEqual(told, plain_holder(rows, thing))
                self.assertIs(is_part(house, told), True)

    def test_the_holder_of_the_first_share_is_the_part(self):
        for house in small_houses() + large_houses():
            for part in all_parts(house):
                self.assertEqual(holder(set_of_shares(house, part), 0), part)

    def test_holders_of_a_piece_are_of_one_kind(self):
        for house, rows in SETS:
            for piece in pieces(rows):
                for thing in piece:
                    self.assertTrue(same_kind(house, holder(rows, thing), holder(rows, piece[0])))

    def test_those_that_are_known(self):
        self.assertEqual(holder([[0, 1, 2], [1, 0, 2]], 0), (0,))
        self.assertEqual(holder([[0, 1, 2], [1, 0, 2]], 2), (0, 1))
        group = group_of(3, SYM3)
        self.assertEqual([holder(set_of_things(group), thing) for thing in range(3)], [(0, 1), (0, 5), (0, 2)])

    def test_nothing_given_is_changed(self):
        check_own(self, holder, [[0, 1, 2], [1, 0, 2]], 2)


class TestCountsOf(unittest.TestCase):
    def test_by_counting_pieces(self):
        for house, rows in SETS:
            told = counts_of(house, kinds_of(house), rows)
            self.assertIsInstance(told, list)
            self.assertEqual(told, plain_counts(house, kinds_of(house), rows))

    def test_sets_of_counts_have_these_counts(self):
        for counts in itertools.product(range(3), repeat=4):
            house = house_by(SYM3)
            kinds = kinds_of(house)
            self.assertEqual(counts_of(house, kinds, set_of_counts(house, kinds, list(counts))), list(counts))

    def test_of_large_houses(self):
        for house in large_houses():
            kinds = kinds_of(house)
            for at, part in enumerate(kinds):
                counts = [0] * len(kinds)
                counts[at] = 1
                counts[-1] += 2
                self.assertEqual(counts_of(house, kinds, set_of_counts(house, kinds, counts)), counts)

    def test_shares_of_any_part_of_a_kind(self):
        house = house_by(SYM4)
        kinds = kinds_of(house)
        for part in all_parts(house):
            self.assertEqual(counts_of(house, kinds, set_of_shares(house, part)),
                             [int(same_kind(house, part, kind)) for kind in kinds])

    def test_without_things(self):
        for house in small_houses():
            kinds = kinds_of(house)
            self.assertEqual(counts_of(house, kinds, [[] for _ in house]), [0] * len(kinds))

    def test_those_that_are_known(self):
        group = group_of(4, SQUARE)
        house = house_of(group)
        # Each corner of the square is held by a turn over, and all corners are one piece.
        told = counts_of(house, kinds_of(house), set_of_things(group))
        self.assertEqual((sum(told), told.index(1)), (1, 1))
        self.assertEqual(counts_of(cyclic(2), [(0,), (0, 1)], [[0, 1, 2, 3, 4], [1, 0, 4, 3, 2]]), [2, 1])

    def test_more_than_sixty_things(self):
        house = house_by(SYM3)
        kinds = kinds_of(house)
        shares = set_of_shares(house, (0, 1))
        one = plainly_paired(plainly_paired(shares, shares), plainly_paired(shares, shares))
        self.assertEqual(len(one[0]), 81)
        self.assertEqual(counts_of(house, kinds, one), plain_counts(house, kinds, one))
        self.assertEqual(marks_of(kinds, one), [81, 1, 0, 0])

    def test_the_list_is_the_askers_own(self):
        for house, rows in SETS[:40]:
            check_own(self, counts_of, copy.deepcopy(house), kinds_of(house), copy.deepcopy(rows))


class TestMarksOf(unittest.TestCase):
    def test_by_counting_things(self):
        for house, rows in SETS:
            told = marks_of(kinds_of(house), rows)
            self.assertIsInstance(told, list)
            self.assertEqual(told, plain_marks(kinds_of(house), rows))

    def test_of_shares_they_are_the_table(self):
        for house in small_houses() + large_houses():
            kinds = kinds_of(house)
            table = table_of(house, kinds)
            for part, row in zip(kinds, table):
                self.assertEqual(marks_of(kinds, set_of_shares(house, part)), row)

    def test_without_things(self):
        for house in small_houses():
            kinds = kinds_of(house)
            self.assertEqual(marks_of(kinds, [[] for _ in house]), [0] * len(kinds))

    def test_those_that_are_known(self):
        kinds = [(0,), (0, 1)]
        self.assertEqual(marks_of(kinds, [[0, 1, 2, 3, 4], [1, 0, 4, 3, 2]]), [5, 1])
        group = group_of(5, ALT5)
        kinds = kinds_of(house_of(group))
        self.assertEqual(marks_of(kinds, set_of_things(group)), [5, 1, 2, 1, 0, 0, 0, 1, 0])

    def test_side_by_side_they_are_added(self):
        for house in [quaternions(), twos(8), house_by(SQUARE)]:
            kinds = kinds_of(house)
            for one, other in itertools.combinations(kinds, 2):
                both = plainly_beside(plain_share_set(house, one), plain_share_set(house, other))
                sums = [a + b for a, b in zip(marks_of(kinds, plain_share_set(house, one)),
                                              marks_of(kinds, plain_share_set(house, other)))]
                self.assertEqual(marks_of(kinds, both), sums)

    def test_the_list_is_the_askers_own(self):
        for house, rows in SETS[:40]:
            check_own(self, marks_of, kinds_of(house), copy.deepcopy(rows))

    def test_a_set_that_is_changed_in_place(self):
        rows = [[0, 1], [1, 0]]
        kinds = [(0,), (0, 1)]
        self.assertEqual((pieces(rows), holder(rows, 0)), ([[0, 1]], (0,)))
        self.assertEqual((counts_of(cyclic(2), kinds, rows), marks_of(kinds, rows)), ([1, 0], [2, 0]))
        rows[1][:] = [0, 1]
        self.assertEqual((pieces(rows), holder(rows, 0)), ([[0], [1]], (0, 1)))
        self.assertEqual((counts_of(cyclic(2), kinds, rows), marks_of(kinds, rows)), ([0, 2], [2, 2]))


if __name__ == "__main__":
    unittest.main()
