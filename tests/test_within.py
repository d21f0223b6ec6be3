"""[23] and [24]: the house of a part, where its kinds lie, and what is seen through the part."""

import copy
import unittest

from helpers import (ALT4, ALT5, SQUARE, SYM3, SYM4, SYM4_AND_TWO, check_own, cyclic, house_by, large_houses,
                     lists_in, quaternions, small_houses, twos)
from plain import number_of_kind, plain_counts, plain_house_of_part, plain_marks, plain_share_set
from heldmarks.groups import group_of, house_of
from heldmarks.houses import is_house
from heldmarks.kinds import all_parts, kinds_of
from heldmarks.marks import table_of
from heldmarks.moved import is_moved, set_of_counts, set_of_shares, set_of_things
from heldmarks.pieces import counts_of, marks_of
from heldmarks.solving import marks_by
from heldmarks.sums import beside, paired
from heldmarks.within import house_of_part, lie_in, seen, seen_set

BIG = 10 ** 30 - 7


def units(many):
    return [[int(at == place) for place in range(many)] for at in range(many)]


def parts_looked_at(house):
    """All parts of a house, or some of each kind where there are many."""
    parts = all_parts(house)
    return parts if len(house) <= 24 else parts[::5] + [parts[-1]]


class TestHouseOfPart(unittest.TestCase):
    def test_by_plain_reckoning(self):
        for house in small_houses() + large_houses():
            for part in parts_looked_at(house):
                told = house_of_part(house, part)
                self.assertEqual(told, plain_house_of_part(house, part))
                self.assertIs(is_house(told), True)

    def test_of_nought_and_of_the_whole(self):
        for house in small_houses() + large_houses():
            self.assertEqual(house_of_part(house, (0,)), [[0]])
            self.assertEqual(house_of_part(house, tuple(range(len(house)))), house)

    def test_those_that_are_known(self):
        self.assertEqual(house_of_part(cyclic(6), (0, 2, 4)), cyclic(3))
        self.assertEqual(house_of_part(cyclic(6), (0, 3)), cyclic(2))
        self.assertEqual(house_of_part(twos(8), (0, 3, 5, 6)), twos(4))

    def test_of_a_part_of_a_part(self):
        house = house_by(SYM4)
        for part in all_parts(house):
            inner = house_of_part(house, part)
            for small in all_parts(inner):
                self.assertEqual(house_of_part(inner, small),
                                 house_of_part(house, tuple(part[place] for place in small)))

    def test_the_lists_are_the_askers_own(self):
        house = house_by(SYM3)
        for part in all_parts(house):
            check_own(self, house_of_part, copy.deepcopy(house), part)


class TestLieIn(unittest.TestCase):
    def test_by_leading_the_numbers(self):
        for house in small_houses() + large_houses():
            kinds = kinds_of(house)
            for part in parts_looked_at(house):
                told = lie_in(house, kinds, part)
                self.assertIsInstance(told, list)
                inner = [tuple(part[place] for place in kind) for kind in kinds_of(house_of_part(house, part))]
                self.assertEqual(told, [number_of_kind(house, kinds, found) for found in inner])

    def test_of_nought_and_of_the_whole(self):
        for house in small_houses() + large_houses():
            kinds = kinds_of(house)
            self.assertEqual(lie_in(house, kinds, (0,)), [0])
            self.assertEqual(lie_in(house, kinds, kinds[-1]), list(range(len(kinds))))

    def test_two_kinds_of_the_part_in_one_of_the_house(self):
        house = house_by(SYM4)
        kinds = kinds_of(house)
        found = [lie_in(house, kinds, part) for part in kinds]
        self.assertTrue(any(len(set(told)) < len(told) for told in found))
        # The part of four numbers that the whole house leads to itself: its three parts of two are of one kind.
        four = next(part for part in kinds if len(part) == 4 and lie_in(house, kinds, part).count(
            lie_in(house, kinds, part)[1]) == 3)
        self.assertEqual(house_of_part(house, four), twos(4))

    def test_the_list_is_the_askers_own(self):
        house = house_by(SYM4)
        for part in kinds_of(house):
            check_own(self, lie_in, copy.deepcopy(house), kinds_of(house), part)


class TestSeen(unittest.TestCase):
    def test_of_one_piece_of_each_kind(self):
        for house in [cyclic(1), cyclic(7), cyclic(12), twos(4), twos(8), house_by(SYM3), house_by(SQUARE),
                      quaternions(), house_by(ALT4), house_by(SYM4)]:
            kinds = kinds_of(house)
            sets = [plain_share_set(house, part) for part in kinds]
            for part in kinds:
                inner = plain_house_of_part(house, part)
                inner_kinds = kinds_of(inner)
                for rows, counts in zip(sets, units(len(kinds))):
                    told = seen(house, kinds, part, counts)
                    self.assertIsInstance(told, list)
                    self.assertEqual(told, plain_counts(inner, inner_kinds, [rows[number] for number in part]))

    def test_of_one_piece_of_some_kinds_of_large_houses(self):
        for house in large_houses():
            kinds = kinds_of(house)
            step = 1 + len(kinds) // 9
            for part in kinds[::step] + [kinds[-1]]:
                inner = plain_house_of_part(house, part)
                inner_kinds = kinds_of(inner)
                for at in range(0, len(kinds), step):
                    rows = set_of_shares(house, kinds[at])
                    self.assertEqual(seen(house, kinds, part, units(len(kinds))[at]),
                                     counts_of(inner, inner_kinds, [rows[number] for number in part]))

    def test_of_any_whole_numbers(self):
        for house in [cyclic(2), cyclic(12), house_by(SYM3), house_by(SYM4), house_by(ALT5), twos(8)]:
            kinds = kinds_of(house)
            many = len(kinds)
            for counts in [[0] * many, [-1] * many, [at - 2 for at in range(many)],
                           [BIG * (-1) ** at for at in range(many)], [-(BIG // (at + 1)) for at in range(many)]]:
                for part in kinds:
                    parts = [seen(house, kinds, part, unit) for unit in units(many)]
                    told = [sum(count * row[at] for count, row in zip(counts, parts)) for at in range(len(parts[0]))]
                    self.assertEqual(seen(house, kinds, part, counts), told)

    def test_they_have_the_marks_of_the_kinds_where_theirs_lie(self):
        for house in small_houses() + large_houses():
            kinds = kinds_of(house)
            counts = [BIG // (at + 1) * (-1) ** at for at in range(len(kinds))]
            marks = marks_by(table_of(house, kinds), counts)
            for part in parts_looked_at(house)[::3]:
                inner = house_of_part(house, part)
                told = seen(house, kinds, part, counts)
                self.assertEqual(marks_by(table_of(inner, kinds_of(inner)), told),
                                 [marks[kind] for kind in lie_in(house, kinds, part)])

    def test_through_nought_and_through_the_whole(self):
        for house in small_houses():
            kinds = kinds_of(house)
            counts = [at * 3 - 5 for at in range(len(kinds))]
            things = sum(count * (len(house) // len(part)) for count, part in zip(counts, kinds))
            self.assertEqual(seen(house, kinds, (0,), counts), [things])
            self.assertEqual(seen(house, kinds, kinds[-1], counts), counts)

    def test_of_a_set_that_is_seen(self):
        for turns in [SYM3, SYM4, ALT5, SQUARE]:
            group = group_of(len(turns[0]), turns)
            house = house_of(group)
            kinds = kinds_of(house)
            things = set_of_things(group)
            for rows in [things, beside(things, things), paired(things, things)]:
                for part in all_parts(house)[::2]:
                    inner = house_of_part(house, part)
                    self.assertEqual(seen(house, kinds, part, counts_of(house, kinds, rows)),
                                     counts_of(inner, kinds_of(inner), seen_set(rows, part)))

    def test_those_that_are_known(self):
        house = house_by(SYM3)
        kinds = kinds_of(house)
        # Three things, of which one is held by (0, 1) and the other two are led to one another.
        self.assertEqual(seen(house, kinds, (0, 1), [0, 1, 0, 0]), [1, 1])
        self.assertEqual(seen(house, kinds, (0, 3, 4), [0, 1, 0, 0]), [1, 0])
        self.assertEqual(seen(house, kinds, (0, 1), [-1, 0, 2, 5]), [-1, 5])

    def test_the_list_is_the_askers_own(self):
        house = house_by(SYM4)
        kinds = kinds_of(house)
        for part in kinds:
            check_own(self, seen, copy.deepcopy(house), list(kinds), part, list(range(len(kinds))))


class TestSeenSet(unittest.TestCase):
    def test_by_the_part_alone(self):
        for house in small_houses():
            kinds = kinds_of(house)
            for rows in [set_of_shares(house, kinds[0]), set_of_counts(house, kinds, [0] * (len(kinds) - 1) + [3])]:
                for part in all_parts(house):
                    told = seen_set(rows, part)
                    self.assertEqual(told, [[rows[number][x] for x in range(len(rows[0]))] for number in part])
                    self.assertIs(is_moved(house_of_part(house, part), told), True)

    def test_marks_are_those_where_the_kinds_lie(self):
        for house in [house_by(SYM4), house_by(ALT4), quaternions()]:
            kinds = kinds_of(house)
            rows = beside(set_of_shares(house, kinds[1]), set_of_shares(house, kinds[-2]))
            marks = plain_marks(kinds, rows)
            for part in all_parts(house):
                inner_kinds = kinds_of(house_of_part(house, part))
                self.assertEqual(marks_of(inner_kinds, seen_set(rows, part)),
                                 [marks[kind] for kind in lie_in(house, kinds, part)])

    def test_without_things(self):
        for house in small_houses():
            for part in all_parts(house):
                self.assertEqual(seen_set([[] for _ in house], part), [[] for _ in part])

    def test_a_large_set_and_one_seen_twice(self):
        house = house_by(SYM4_AND_TWO)
        kinds = kinds_of(house)
        rows = set_of_counts(house, kinds, [2] + [0] * (len(kinds) - 1))
        part = kinds[-2]
        inner = house_of_part(house, part)
        told = seen_set(rows, part)
        self.assertEqual(len(told[0]), 96)
        small = kinds_of(inner)[3]
        self.assertEqual(seen_set(told, small), seen_set(rows, tuple(part[place] for place in small)))

    def test_the_lists_are_the_askers_own(self):
        rows = set_of_things(group_of(3, SYM3))
        for part in [(0,), (0, 1), (0, 3, 4), tuple(range(6))]:
            check_own(self, seen_set, copy.deepcopy(rows), part)
        told = seen_set([[], []], (0, 1))
        self.assertEqual(len({id(row) for row in lists_in(told)}), 3)

    def test_what_is_changed_in_place(self):
        house, rows, counts = cyclic(4), [[0, 1], [1, 0], [0, 1], [1, 0]], [1, 0, 0]
        kinds = kinds_of(house)
        self.assertEqual((seen(house, kinds, (0, 2), counts), seen_set(rows, (0, 2))), ([2, 0], [[0, 1], [0, 1]]))
        counts[2] = 1
        rows[2].append(2)
        self.assertEqual((seen(house, kinds, (0, 2), counts), seen_set(rows, (0, 2))), ([2, 1], [[0, 1], [0, 1, 2]]))
        house[:] = twos(4)
        self.assertEqual(lie_in(house, kinds_of(house), (0, 2)), [0, 2])
        self.assertEqual(house_of_part(house, (0, 3)), [[0, 1], [1, 0]])


if __name__ == "__main__":
    unittest.main()
