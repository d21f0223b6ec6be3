"""[25] and [26]: what grows from a part, and the ways from one set into another."""

import copy
import itertools
import unittest

from helpers import (ALT4, ALT5, SQUARE, SYM3, SYM4, check_own, cyclic, house_by, large_houses, lists_in, quaternions,
                     small_houses, twos)
from plain import number_of_kind, plain_counts, plain_grown_set, plain_house_of_part, plain_marks, plain_ways
from heldmarks.groups import group_of, house_of
from heldmarks.grown import grown, grown_set, ways
from heldmarks.kinds import all_parts, kinds_of
from heldmarks.marks import table_of
from heldmarks.moved import is_moved, set_of_counts, set_of_shares, set_of_things
from heldmarks.pieces import counts_of, marks_of
from heldmarks.solving import marks_by
from heldmarks.sums import beside
from heldmarks.within import house_of_part, lie_in, seen, seen_set

BIG = 10 ** 30 - 7


def inner_sets(house, part, most):
    """Sets of the part's house, with so many things at most when they are grown: none, shares, and some together."""
    inner = plain_house_of_part(house, part)
    kinds = kinds_of(inner)
    times = len(house) // len(part)
    told = [[[] for _ in inner]]
    told += [set_of_shares(inner, kind) for kind in kinds if len(inner) // len(kind) * times <= most]
    if 2 * times <= most:
        told.append(beside(told[-1], told[-1]))
    return [rows for rows in told if len(rows[0]) * times <= most]


class TestGrownSet(unittest.TestCase):
    def test_by_plain_reckoning(self):
        for house in small_houses():
            for part in all_parts(house)[:: 1 + len(house) // 12]:
                for rows in inner_sets(house, part, 30):
                    told = grown_set(house, part, rows)
                    self.assertEqual(told, plain_grown_set(house, part, rows))
                    self.assertIs(is_moved(house, told), True)

    def test_of_large_houses(self):
        for house in large_houses():
            kinds = kinds_of(house)
            for part in kinds[:: 1 + len(kinds) // 5] + [kinds[-1]]:
                inner = house_of_part(house, part)
                for rows in inner_sets(house, part, 60)[:6]:
                    told = grown_set(house, part, rows)
                    self.assertIs(is_moved(house, told), True)
                    self.assertEqual(len(told[0]), len(rows[0]) * (len(house) // len(part)))
                    self.assertEqual(counts_of(house, kinds, told),
                                     grown(house, kinds, part, counts_of(inner, kinds_of(inner), rows)))

    def test_sixty_pairs(self):
        house = house_by(ALT5)
        part = kinds_of(house)[-2]
        rows = set_of_shares(house_of_part(house, part), (0,))
        told = grown_set(house, part, rows)
        self.assertEqual(len(told[0]), 60)
        self.assertEqual(told, plain_grown_set(house, part, rows))

    def test_from_nought_and_from_the_whole(self):
        for house in small_houses():
            self.assertEqual(grown_set(house, (0,), [[0]]), set_of_shares(house, (0,)))
            rows = set_of_shares(house, kinds_of(house)[len(kinds_of(house)) // 2])
            self.assertEqual(grown_set(house, tuple(range(len(house))), rows), rows)

    def test_of_one_thing_the_shares_come(self):
        for house in small_houses():
            for part in all_parts(house):
                self.assertEqual(grown_set(house, part, [[0] for _ in part]), set_of_shares(house, part))

    def test_without_things(self):
        for house in small_houses():
            for part in kinds_of(house):
                self.assertEqual(grown_set(house, part, [[] for _ in part]), [[] for _ in house])

    def test_those_that_are_known(self):
        # From (0, 2): what comes round by 1 and 1 is led as by 2.
        self.assertEqual(grown_set(cyclic(4), (0, 2), [[0, 1], [1, 0]]),
                         [[0, 1, 2, 3], [2, 3, 1, 0], [1, 0, 3, 2], [3, 2, 0, 1]])
        self.assertEqual(grown_set(cyclic(2), (0,), [[0, 1]]), [[0, 1, 2, 3], [2, 3, 0, 1]])

    def test_the_lists_are_the_askers_own(self):
        house = house_by(SYM3)
        for part in all_parts(house):
            for rows in inner_sets(house, part, 12):
                check_own(self, grown_set, copy.deepcopy(house), part, copy.deepcopy(rows))
        told = grown_set(cyclic(2), (0, 1), [[], []])
        self.assertEqual(len({id(row) for row in lists_in(told)}), 3)


class TestGrown(unittest.TestCase):
    def test_of_one_piece_of_each_kind(self):
        for house in small_houses() + large_houses():
            kinds = kinds_of(house)
            for part in kinds[:: 1 + len(kinds) // 12] + [kinds[-1]]:
                inner_kinds = kinds_of(house_of_part(house, part))
                for at, kind in enumerate(inner_kinds):
                    goal = number_of_kind(house, kinds, tuple(part[place] for place in kind))
                    counts = [int(place == at) for place in range(len(inner_kinds))]
                    self.assertEqual(grown(house, kinds, part, counts),
                                     [int(place == goal) for place in range(len(kinds))])

    def test_of_any_whole_numbers(self):
        for house in [cyclic(2), cyclic(12), house_by(SYM3), house_by(SYM4), house_by(ALT5), twos(8)]:
            kinds = kinds_of(house)
            for part in all_parts(house)[::3] + [kinds[-1]]:
                lies = lie_in(house, kinds, part)
                many = len(lies)
                for counts in [[0] * many, [-1] * many, [at - 2 for at in range(many)],
                               [BIG * (-1) ** at - at for at in range(many)]]:
                    told = grown(house, kinds, part, counts)
                    self.assertIsInstance(told, list)
                    self.assertEqual(told, [sum(count for count, lie in zip(counts, lies) if lie == kind)
                                            for kind in range(len(kinds))])

    def test_of_a_set_those_of_the_grown_set(self):
        for house in [cyclic(6), twos(4), house_by(SYM3), house_by(SQUARE), quaternions(), house_by(ALT4)]:
            kinds = kinds_of(house)
            for part in all_parts(house):
                inner = plain_house_of_part(house, part)
                for rows in inner_sets(house, part, 24):
                    counts = plain_counts(inner, kinds_of(inner), rows)
                    self.assertEqual(grown(house, kinds, part, counts),
                                     plain_counts(house, kinds, plain_grown_set(house, part, rows)))

    def test_from_nought_and_from_the_whole(self):
        for house in small_houses():
            kinds = kinds_of(house)
            self.assertEqual(grown(house, kinds, (0,), [-BIG]), [-BIG] + [0] * (len(kinds) - 1))
            counts = [at * 7 - 9 for at in range(len(kinds))]
            self.assertEqual(grown(house, kinds, kinds[-1], counts), counts)

    def test_the_list_is_the_askers_own(self):
        house = house_by(SYM4)
        kinds = kinds_of(house)
        for part in kinds:
            check_own(self, grown, copy.deepcopy(house), list(kinds), part, list(range(len(lie_in(house, kinds, part)))))

    def test_what_is_changed_in_place(self):
        house, counts, rows = cyclic(4), [1, 0], [[0], [0]]
        self.assertEqual(grown(house, kinds_of(house), (0, 2), counts), [1, 0, 0])
        self.assertEqual(grown_set(house, (0, 2), rows), [[0, 1], [1, 0], [0, 1], [1, 0]])
        counts[1] = 4
        house[:] = twos(4)
        rows[1].append(1)
        rows[0].append(1)
        self.assertEqual(grown(house, kinds_of(house), (0, 2), counts), [1, 0, 4, 0, 0])
        self.assertEqual(grown_set(house, (0, 2), rows)[1], [2, 3, 0, 1])


class TestWays(unittest.TestCase):
    def test_by_going_through_all(self):
        for house in [cyclic(1), cyclic(2), cyclic(4), twos(4), house_by(SYM3)]:
            kinds = kinds_of(house)
            sets = [set_of_counts(house, kinds, list(counts)) for counts in itertools.product(range(3), repeat=len(kinds))
                    if sum(count * len(house) // len(part) for count, part in zip(counts, kinds)) <= 4]
            for one, other in itertools.product(sets, repeat=2):
                self.assertEqual(ways(counts_of(house, kinds, one), marks_of(kinds, other)), plain_ways(one, other))

    def test_of_larger_sets(self):
        for turns in [SYM3, SQUARE, ALT4]:
            group = group_of(len(turns[0]), turns)
            house = house_of(group)
            kinds = kinds_of(house)
            things = set_of_things(group)
            stay = [[0] for _ in house]
            for one, other in itertools.product([things, beside(things, stay), stay, beside(stay, stay)], repeat=2):
                self.assertEqual(ways(counts_of(house, kinds, one), marks_of(kinds, other)), plain_ways(one, other))

    def test_nought_to_the_power_of_nought_is_one(self):
        self.assertEqual(ways([0], [0]), 1)
        self.assertEqual(ways([0, 0], [0, 5]), 1)
        self.assertEqual(ways([1, 0], [0, 5]), 0)
        self.assertEqual(ways([0, 2], [0, 5]), 25)
        self.assertEqual(plain_ways([[], []], [[], []]), 1)

    def test_marks_of_many_figures(self):
        self.assertEqual(ways([2, 0, 3], [BIG, 7, BIG - 1]), BIG ** 2 * (BIG - 1) ** 3)
        self.assertEqual(ways([60], [BIG]), BIG ** 60)
        self.assertEqual(ways([30, 30], [10 ** 30, 10 ** 29]), 10 ** 1770)

    def test_each_count_up_to_sixty_and_somewhat_beyond(self):
        for mark in [0, 1, 2, 3, 10, BIG]:
            told = 1
            for count in range(70):
                self.assertEqual(ways([count], [mark]), told)
                told *= mark

    def test_counts_of_many_figures_into_none_or_one(self):
        for count in [61, 1000, 2 ** 99, BIG]:
            self.assertEqual(ways([count, 2, 0], [1, 7, 0]), 49)
            self.assertEqual(ways([2, count, 1], [7, 0, 3]), 0)

    def test_as_many_from_a_grown_set_as_into_what_is_seen(self):
        for house in [cyclic(6), house_by(SYM3), house_by(SYM4), quaternions(), house_by(ALT5)]:
            kinds = kinds_of(house)
            table = table_of(house, kinds)
            for part in kinds:
                inner = house_of_part(house, part)
                inner_kinds = kinds_of(inner)
                counts = [(at + 1) % 3 for at in range(len(inner_kinds))]
                into = [at % 4 for at in range(len(kinds))]
                seen_marks = marks_by(table_of(inner, inner_kinds), seen(house, kinds, part, into))
                self.assertEqual(ways(grown(house, kinds, part, counts), marks_by(table, into)),
                                 ways(counts, seen_marks))

    def test_as_many_by_going_through_all(self):
        for house, part in [(cyclic(4), (0, 2)), (house_by(SYM3), (0, 3, 4)), (house_by(SYM3), (0, 1)), (twos(4), (0, 3)),
                            (cyclic(2), (0,))]:
            kinds = kinds_of(house)
            for rows in inner_sets(house, part, 6):
                for kind in kinds[1:]:
                    into = beside(set_of_shares(house, kind), [[0] for _ in house])
                    from_grown = plain_ways(grown_set(house, part, rows), into)
                    self.assertEqual(from_grown, plain_ways(rows, seen_set(into, part)))
                    self.assertEqual(from_grown, ways(counts_of(house, kinds, plain_grown_set(house, part, rows)),
                                                      plain_marks(kinds, into)))

    def test_nothing_given_is_changed(self):
        check_own(self, ways, [1, 0, 2], [3, 4, 5])


if __name__ == "__main__":
    unittest.main()
