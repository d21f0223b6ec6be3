"""[14]: moved sets, what they are and those that are told."""

import copy
import itertools
import unittest

from helpers import (ALT4, ALT5, SEVEN, SQUARE, SYM3, SYM4, SYM4_AND_TWO, check_own, cyclic, house_by, large_houses,
                     odd_things, quaternions, small_houses, twos)
from plain import plain_share_set, plainly_beside_all, plainly_moved
from heldmarks.groups import group_of, house_of
from heldmarks.kinds import all_parts, kinds_of
from heldmarks.moved import is_moved, set_of_counts, set_of_shares, set_of_things
from heldmarks.turns import then


def all_rows(house, many):
    """All lists with, for each number of the house, a list of so many numbers of things."""
    rows = itertools.product(range(many), repeat=many)
    for told in itertools.product(list(rows), repeat=len(house)):
        yield [list(row) for row in told]


def with_entry(rows, number, thing, entry):
    told = copy.copy(rows)
    told[number] = rows[number][:thing] + [entry] + rows[number][thing + 1:]
    return told


class TestIsMoved(unittest.TestCase):
    def test_sets_of_shares(self):
        for house in small_houses() + large_houses():
            for part in kinds_of(house):
                self.assertIs(is_moved(house, plain_share_set(house, part)), True)

    def test_sets_of_things(self):
        for turns in [SYM3, SYM4, ALT4, ALT5, SQUARE, SEVEN, SYM4_AND_TWO]:
            group = group_of(len(turns[0]), turns)
            self.assertIs(is_moved(house_of(group), [list(turn) for turn in group]), True)

    def test_all_lists_of_a_few_things(self):
        # Rows that are no turns are among them, and those that 0 moves.
        for house, many in [(cyclic(1), 1), (cyclic(1), 3), (cyclic(2), 1), (cyclic(2), 2), (cyclic(2), 3),
                            (cyclic(3), 2), (cyclic(3), 3), (twos(4), 2), (cyclic(4), 2), (house_by(SYM3), 2)]:
            for rows in all_rows(house, many):
                self.assertIs(is_moved(house, rows), plainly_moved(house, rows))

    def test_each_entry_changed(self):
        for house in [house_by(SYM3), house_by(SQUARE), quaternions(), twos(8)]:
            for part in kinds_of(house):
                rows = plain_share_set(house, part)
                for number, row in enumerate(rows):
                    for thing in range(len(row)):
                        for entry in range(len(row)):
                            told = is_moved(house, with_entry(rows, number, thing, entry))
                            self.assertIs(told, entry == row[thing])

    def test_no_things(self):
        for house in small_houses() + [house_by(ALT5)]:
            self.assertIs(is_moved(house, [[] for _ in house]), True)
            self.assertIs(is_moved(house, []), False)
            self.assertIs(is_moved(house, [[] for _ in house] + [[]]), False)
            self.assertIs(is_moved(house, [[] for _ in house][1:]), False)
            self.assertIs(is_moved(house, [() for _ in house]), False)
            self.assertIs(is_moved(house, [[] for _ in house[1:]] + [[0]]), len(house) == 1)
            self.assertIs(is_moved(house, [[0]] + [[] for _ in house[1:]]), len(house) == 1)

    def test_the_rule_of_nought_broken_alone(self):
        for house in small_houses():
            # All leads to one thing, whichever number it is led by.
            rows = [[1, 1, 1] for _ in house]
            self.assertTrue(all(rows[house[a][b]][x] == rows[b][rows[a][x]] for a in range(len(house))
                                for b in range(len(house)) for x in range(3)))
            self.assertIs(is_moved(house, rows), False)

    def test_the_rule_of_one_then_another_broken_alone(self):
        self.assertIs(is_moved(cyclic(3), [[0, 1, 2], [1, 2, 0], [1, 2, 0]]), False)
        self.assertIs(is_moved(cyclic(3), [[0, 1, 2], [1, 2, 0], [2, 0, 1]]), True)
        self.assertIs(is_moved(cyclic(2), [[0, 1], [0, 0]]), False)
        self.assertIs(is_moved(twos(4), [[0, 1], [1, 0], [1, 0], [1, 0]]), False)
        self.assertIs(is_moved(twos(4), [[0, 1], [1, 0], [1, 0], [0, 1]]), True)
        self.assertIs(is_moved(cyclic(4), [[0, 1], [1, 0], [0, 1], [0, 1]]), False)

    def test_led_the_wrong_way_round(self):
        # (k then g) instead of (g then k): then it is b that goes first in (a then b).
        for turns in [SYM3, SQUARE, SYM4, ALT5]:
            house = house_by(turns)
            self.assertIs(is_moved(house, [list(row) for row in zip(*house)]), True)
            self.assertIs(is_moved(house, copy.deepcopy(house)), False)
        self.assertIs(is_moved(cyclic(6), cyclic(6)), True)

    def test_moved_by_another_house(self):
        self.assertIs(is_moved(cyclic(4), plain_share_set(twos(4), (0,))), False)
        self.assertIs(is_moved(twos(4), plain_share_set(cyclic(4), (0,))), False)
        self.assertIs(is_moved(cyclic(6), plain_share_set(house_by(SYM3), (0,))), False)

    def test_rows_of_unlike_lengths(self):
        house = house_by(SYM3)
        rows = plain_share_set(house, (0, 1))
        for number in range(6):
            for row in [rows[number][:2], rows[number] + [3], rows[number] + [0], []]:
                self.assertIs(is_moved(house, rows[:number] + [row] + rows[number + 1:]), False)

    def test_too_few_and_too_many_rows(self):
        house = house_by(SYM3)
        rows = plain_share_set(house, (0, 1))
        for many in range(6):
            self.assertIs(is_moved(house, rows[:many]), False)
        self.assertIs(is_moved(house, rows + rows[:1]), False)
        self.assertIs(is_moved(house, rows + rows), False)

    def test_numbers_below_nought_and_beyond(self):
        for house in [cyclic(1), cyclic(2), house_by(SYM3)]:
            rows = plain_share_set(house, (0,))
            many = len(house)
            for number in range(many):
                for thing in range(many):
                    for entry in [rows[number][thing] - many, rows[number][thing] + many, -1, many, 10 ** 29]:
                        self.assertIs(is_moved(house, with_entry(rows, number, thing, entry)), False)

    def test_truths_for_numbers(self):
        for house in [cyclic(1), cyclic(2), house_by(SYM3)]:
            rows = plain_share_set(house, (0,))
            for number, row in enumerate(rows):
                for thing, entry in enumerate(row):
                    if entry in (0, 1):
                        self.assertIs(is_moved(house, with_entry(rows, number, thing, bool(entry))), False)

    def test_tuples_for_lists(self):
        for house in [cyclic(1), cyclic(2), house_by(SYM3)]:
            rows = plain_share_set(house, (0,))
            self.assertIs(is_moved(house, tuple(rows)), False)
            self.assertIs(is_moved(house, [tuple(row) for row in rows]), False)
            for number, row in enumerate(rows):
                self.assertIs(is_moved(house, rows[:number] + [tuple(row)] + rows[number + 1:]), False)

    def test_whatever_thing(self):
        for house in [cyclic(2), house_by(SYM3), house_by(ALT5)]:
            for thing in odd_things() + [0, 1, "ab", {0: [0], 1: [0]}, ([0], [0])]:
                self.assertIs(is_moved(house, thing), False)
        for thing in odd_things():
            if thing not in ([[0]], [[]]):
                self.assertIs(is_moved([[0]], thing), False)

    def test_odd_things_within(self):
        for house in [cyclic(1), cyclic(2), house_by(SYM3)]:
            rows = plain_share_set(house, (0,))
            for odd in odd_things():
                for number in range(len(house)):
                    if odd != rows[number] and (len(house) > 1 or odd != []):
                        self.assertIs(is_moved(house, rows[:number] + [odd] + rows[number + 1:]), False)
                    for thing in range(len(house)):
                        self.assertIs(is_moved(house, with_entry(rows, number, thing, odd)), False)

    def test_however_many_things_there_are(self):
        house = house_by(ALT5)
        rows = [[thing for thing in range(5000)] for _ in house]
        self.assertIs(is_moved(house, rows), True)
        for number in [0, 1, 30, 59]:
            for thing, entry in [(4999, 4998), (0, 1), (2500, 5000)]:
                self.assertIs(is_moved(house, with_entry(rows, number, thing, entry)), False)
        house = cyclic(30)
        rows = [[thing - thing % 30 + (thing + number) % 30 for thing in range(9000)] for number in range(30)]
        self.assertIs(is_moved(house, rows), True)
        rows[17][8999], rows[17][8998] = rows[17][8998], rows[17][8999]
        self.assertIs(is_moved(house, rows), False)

    def test_two_places_changed_in_a_large_set(self):
        for house in [house_by(SYM4_AND_TWO), twos(16)]:
            rows = plain_share_set(house, (0,))
            for number in range(len(house)):
                wrong = copy.deepcopy(rows)
                wrong[number][1], wrong[number][2] = wrong[number][2], wrong[number][1]
                self.assertIs(is_moved(house, wrong), False)

    def test_nothing_given_is_changed(self):
        for thing in [plain_share_set(house_by(SYM3), (0, 1)), [[]] * 6, [[0]], "a", [[0, 1]] * 6]:
            check_own(self, is_moved, house_by(SYM3), copy.deepcopy(thing))

    def test_a_set_that_is_changed_in_place(self):
        house = cyclic(2)
        rows = [[0, 1], [1, 0]]
        self.assertIs(is_moved(house, rows), True)
        rows[1][:] = [0, 0]
        self.assertIs(is_moved(house, rows), False)
        rows[1][:] = [0, 1]
        self.assertIs(is_moved(house, rows), True)


class TestSetOfThings(unittest.TestCase):
    def test_each_turn_as_a_list(self):
        for turns in [SYM3, SYM4, ALT4, ALT5, SQUARE, SEVEN, SYM4_AND_TWO, [(0,)]]:
            group = group_of(len(turns[0]), turns)
            rows = set_of_things(group)
            self.assertEqual(rows, [list(turn) for turn in group])
            self.assertTrue(plainly_moved(house_of(group), rows))
            self.assertIs(is_moved(house_of(group), rows), True)

    def test_where_things_are_led(self):
        group = group_of(4, SQUARE)
        rows = set_of_things(group)
        for a, one in enumerate(group):
            for b, other in enumerate(group):
                self.assertEqual([rows[b][rows[a][thing]] for thing in range(4)], list(then(one, other)))

    def test_those_that_are_known(self):
        self.assertEqual(set_of_things(((0, 1), (1, 0))), [[0, 1], [1, 0]])
        self.assertEqual(set_of_things(((0,),)), [[0]])

    def test_the_lists_are_the_askers_own(self):
        check_own(self, set_of_things, group_of(4, SQUARE))
        check_own(self, set_of_things, group_of(1, []))


class TestSetOfShares(unittest.TestCase):
    def test_by_shares_led_as_tuples(self):
        for house in small_houses():
            for part in all_parts(house):
                self.assertEqual(set_of_shares(house, part), plain_share_set(house, part))

    def test_of_large_houses(self):
        for house in large_houses():
            for part in kinds_of(house):
                rows = set_of_shares(house, part)
                self.assertEqual([len(row) for row in rows], [len(house) // len(part)] * len(house))
                self.assertEqual(rows, plain_share_set(house, part))
                self.assertIs(is_moved(house, rows), True)

    def test_those_that_are_known(self):
        self.assertEqual(set_of_shares([[0]], (0,)), [[0]])
        self.assertEqual(set_of_shares(cyclic(4), (0, 2)), [[0, 1], [1, 0], [0, 1], [1, 0]])
        self.assertEqual(set_of_shares(cyclic(3), (0, 1, 2)), [[0], [0], [0]])
        # The shares are {0, 1}, {2, 3} and {4, 5}.
        self.assertEqual(set_of_shares(house_by(SYM3), (0, 1)),
                         [[0, 1, 2], [0, 2, 1], [1, 0, 2], [1, 2, 0], [2, 0, 1], [2, 1, 0]])

    def test_the_lists_are_the_askers_own(self):
        for house in [[[0]], house_by(SYM3), twos(4)]:
            for part in all_parts(house):
                check_own(self, set_of_shares, copy.deepcopy(house), part)

    def test_a_house_that_is_changed_in_place(self):
        house = cyclic(4)
        self.assertEqual(set_of_shares(house, (0, 2)), [[0, 1], [1, 0], [0, 1], [1, 0]])
        house[:] = twos(4)
        self.assertEqual(set_of_shares(house, (0, 2)), [[0, 1], [1, 0], [0, 1], [1, 0]])
        self.assertEqual(set_of_shares(house, (0,))[3], [3, 2, 1, 0])


class TestSetOfCounts(unittest.TestCase):
    def check_counts(self, house, counts):
        kinds = kinds_of(house)
        sets = [plain_share_set(house, part) for part, count in zip(kinds, counts) for _ in range(count)]
        told = set_of_counts(house, kinds, counts)
        self.assertEqual(told, plainly_beside_all(house, sets))
        self.assertIs(is_moved(house, told), True)

    def test_side_by_side(self):
        for counts in itertools.product(range(3), repeat=4):
            self.check_counts(house_by(SYM3), list(counts))

    def test_of_one_kind_alone(self):
        for house in small_houses():
            for at, part in enumerate(kinds_of(house)):
                counts = [0] * len(kinds_of(house))
                counts[at] = 1
                self.check_counts(house, counts)
                self.assertEqual(set_of_counts(house, kinds_of(house), counts), set_of_shares(house, part))

    def test_of_none(self):
        for house in small_houses() + [house_by(ALT5)]:
            kinds = kinds_of(house)
            self.assertEqual(set_of_counts(house, kinds, [0] * len(kinds)), [[] for _ in house])

    def test_of_sixty_things(self):
        for house in large_houses():
            counts = [0] * len(kinds_of(house))
            counts[0] = 60 // len(house)
            counts[-1] = 60 - counts[0] * len(house)
            self.check_counts(house, counts)
            counts = [0] * len(counts)
            counts[-1] = 60
            self.check_counts(house, counts)

    def test_in_the_order_of_kinds(self):
        house = cyclic(2)
        self.assertEqual(set_of_counts(house, kinds_of(house), [1, 2]), [[0, 1, 2, 3], [1, 0, 2, 3]])
        self.assertEqual(set_of_counts(house, kinds_of(house), [2, 1]), [[0, 1, 2, 3, 4], [1, 0, 3, 2, 4]])
        self.assertEqual(set_of_counts([[0]], [(0,)], [3]), [[0, 1, 2]])

    def test_the_lists_are_the_askers_own(self):
        for counts in [[0, 0, 0, 0], [0, 1, 0, 0], [1, 0, 2, 3], [0, 0, 0, 1]]:
            check_own(self, set_of_counts, house_by(SYM3), kinds_of(house_by(SYM3)), counts)
        check_own(self, set_of_counts, [[0]], [(0,)], [0])

    def test_counts_that_are_changed_in_place(self):
        house = cyclic(2)
        counts = [0, 1]
        self.assertEqual(set_of_counts(house, [(0,), (0, 1)], counts), [[0], [0]])
        counts[0] = 1
        self.assertEqual(set_of_counts(house, [(0,), (0, 1)], counts), [[0, 1, 2], [1, 0, 2]])


if __name__ == "__main__":
    unittest.main()
