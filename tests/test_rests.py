"""[19] and [20]: growths, the sums of marks over stayers, and uneven kinds."""

import itertools
import unittest

from helpers import (ALT4, ALT5, SEVEN, SQUARE, SQUARE_AND_SYM3, SYM3, SYM4, SYM4_AND_TWO, check_own, cyclic, house_by,
                     large_houses, paired_house, quaternions, small_houses, twos)
from plain import plain_growths, plain_stayer_kinds
from heldmarks.errors import NoSet
from heldmarks.kinds import all_parts, kinds_of
from heldmarks.marks import table_of
from heldmarks.moved import set_of_counts
from heldmarks.pieces import marks_of
from heldmarks.rests import first_uneven, growths, stayer_sums
from heldmarks.solving import marks_by, solved

BIG = 10 ** 30 - 7


def is_solved(table, marks):
    try:
        return marks_by(table, solved(table, marks)) == marks
    except NoSet:
        return False


class TestGrowths(unittest.TestCase):
    def test_by_going_through_any_two_parts(self):
        for house in small_houses() + large_houses():
            kinds = kinds_of(house)
            told = growths(house, kinds)
            self.assertIsInstance(told, list)
            self.assertEqual(told, plain_growths(house, kinds, all_parts(house)))

    def test_those_that_are_known(self):
        known = [
            (cyclic(1), []), (cyclic(2), [(0, 1, 2)]), (cyclic(7), [(0, 1, 7)]), (cyclic(4), [(0, 1, 2), (1, 2, 2)]),
            (cyclic(6), [(0, 1, 2), (0, 2, 3), (1, 3, 3), (2, 3, 2)]),
            (house_by(SYM3), [(0, 1, 2), (0, 2, 3), (2, 3, 2)]),
            (house_by(ALT4), [(0, 1, 2), (0, 2, 3), (1, 3, 2), (3, 4, 3)]),
            (house_by(ALT5), [(0, 1, 2), (0, 2, 3), (0, 4, 5), (1, 3, 2), (2, 5, 2), (3, 7, 3), (4, 6, 2)]),
        ]
        for house, told in known:
            self.assertEqual(growths(house, kinds_of(house)), told)

    def test_rising_and_each_once(self):
        for house in large_houses():
            told = growths(house, kinds_of(house))
            self.assertEqual(told, sorted(set(told)))
            self.assertTrue(all(isinstance(entry, tuple) for entry in told))

    def test_marks_at_i_and_at_j_leave_the_same_rest(self):
        for house in small_houses() + large_houses():
            kinds = kinds_of(house)
            rows = table_of(house, kinds)
            rows.append(marks_of(kinds, set_of_counts(house, kinds, [0] * (len(kinds) - 1) + [5])))
            rows.append(marks_by(rows[:len(kinds)], [BIG - at * at for at in range(len(kinds))]))
            for i, j, p in growths(house, kinds):
                for marks in rows:
                    self.assertEqual((marks[i] - marks[j]) % p, 0)

    def test_the_list_is_the_askers_own(self):
        for house in [[[0]], house_by(SYM3), twos(8), house_by(ALT5)]:
            check_own(self, growths, house, kinds_of(house))


class TestStayerSums(unittest.TestCase):
    def test_by_plain_reckoning_whichever_number_is_taken(self):
        for house in small_houses() + [house_by(ALT5)]:
            kinds = kinds_of(house)
            many = len(kinds)
            rows = [list(range(many)), [at * at - 7 for at in range(many)], [BIG * (-1) ** at + at for at in range(many)]]
            told = [stayer_sums(house, kinds, marks) for marks in rows]
            for i, part in enumerate(kinds):
                found = plain_stayer_kinds(house, kinds, part)
                for take in [min, max, first_of, last_of]:
                    for marks, sums in zip(rows, told):
                        self.assertEqual(sums[i], (sum(marks[take(numbers)] for numbers in found), len(found)))

    def test_by_plain_reckoning_where_there_are_many_kinds(self):
        for house, many in [(twos(16), 67), (house_by(SYM4_AND_TWO), 33)]:
            kinds = kinds_of(house)
            self.assertEqual(len(kinds), many)
            found = [plain_stayer_kinds(house, kinds, part) for part in kinds]
            self.assertTrue(all(len(set(numbers)) == 1 for shares in found for numbers in shares))
            table = table_of(house, kinds)
            rows = [[1] * many, [0] * many, list(range(many)), [BIG * (-1) ** at + at for at in range(many)], table[0],
                    table[many // 2], [at % 2 for at in range(many)], marks_by(table, [BIG // (at + 1) for at in range(many)])]
            rows += [[int(at == kind) for at in range(many)] for kind in range(0, many, 7)]
            for marks in rows:
                sums = [(sum(marks[numbers[0]] for numbers in shares), len(shares)) for shares in found]
                self.assertEqual(stayer_sums(house, kinds, marks), sums)
                uneven = [kind for kind, (total, shares) in enumerate(sums) if total % shares != 0]
                self.assertEqual(first_uneven(house, kinds, marks), uneven[0] if uneven else None)

    def test_how_often_each_kind_comes(self):
        houses = [cyclic(many) for many in range(1, 31)] + [paired_house(cyclic(5), cyclic(5)), house_by(SEVEN),
                  paired_house(cyclic(3), cyclic(9)), paired_house(house_by(SYM3), cyclic(4)), quaternions(),
                  paired_house(quaternions(), cyclic(3)), paired_house(cyclic(4), cyclic(4)), house_by(SQUARE_AND_SYM3)]
        for house in houses:
            kinds = kinds_of(house)
            # So far apart that from a sum it can be seen how often each of the marks is in it.
            marks = [100 ** kind for kind in range(len(kinds))]
            found = [plain_stayer_kinds(house, kinds, part) for part in kinds]
            self.assertEqual(stayer_sums(house, kinds, marks),
                             [(sum(marks[numbers[-1]] for numbers in shares), len(shares)) for shares in found])

    def test_it_is_a_list_of_tuples(self):
        for house in small_houses() + large_houses():
            kinds = kinds_of(house)
            told = stayer_sums(house, kinds, [0] * len(kinds))
            self.assertIsInstance(told, list)
            self.assertEqual([total for total, _ in told], [0] * len(kinds))
            # How many shares a part has within its stayers is its own mark.
            table = table_of(house, kinds)
            self.assertEqual([many for _, many in told], [table[i][i] for i in range(len(kinds))])
            self.assertTrue(all(isinstance(entry, tuple) for entry in told))

    def test_those_that_are_known(self):
        self.assertEqual(stayer_sums([[0]], [(0,)], [-3]), [(-3, 1)])
        self.assertEqual(stayer_sums(cyclic(2), [(0,), (0, 1)], [10, 3]), [(13, 2), (3, 1)])
        house = house_by(SYM3)
        kinds = kinds_of(house)
        # At (0,): the stay, three of length two and two of length three.
        self.assertEqual(stayer_sums(house, kinds, [1000, 100, 10, 1]), [(1320, 6), (100, 1), (11, 2), (1, 1)])
        house = cyclic(4)
        self.assertEqual(stayer_sums(house, kinds_of(house), [100, 10, 1]), [(112, 4), (11, 2), (1, 1)])

    def test_of_sets_they_can_be_divided(self):
        for house in small_houses() + large_houses():
            kinds = kinds_of(house)
            table = table_of(house, kinds)
            for marks in table[:: 1 + len(table) // 8]:
                for total, many in stayer_sums(house, kinds, marks):
                    self.assertEqual(total % many, 0)

    def test_the_list_is_the_askers_own(self):
        for house in [[[0]], house_by(SYM3), house_by(SYM4)]:
            kinds = kinds_of(house)
            check_own(self, stayer_sums, house, kinds, list(range(len(kinds))))


class TestFirstUneven(unittest.TestCase):
    def test_none_just_where_the_marks_are_solved(self):
        for house, numbers in [(cyclic(1), range(-9, 9)), (cyclic(2), range(-9, 9)), (cyclic(4), range(-4, 5)),
                               (cyclic(6), range(-2, 4)), (twos(4), range(-1, 3)), (house_by(SYM3), range(-2, 5)),
                               (house_by(ALT4), range(-1, 3)), (quaternions(), range(2))]:
            kinds = kinds_of(house)
            table = table_of(house, kinds)
            for marks in itertools.product(numbers, repeat=len(kinds)):
                told = first_uneven(house, kinds, list(marks))
                self.assertIs(told is None, is_solved(table, list(marks)))

    def test_the_first_of_the_uneven_kinds(self):
        for house in [cyclic(12), house_by(SYM3), house_by(SQUARE), house_by(SYM4), house_by(ALT5)]:
            kinds = kinds_of(house)
            found = [plain_stayer_kinds(house, kinds, part) for part in kinds]
            for step in range(1, 9):
                for marks in [[at * step % 7 for at in range(len(kinds))], [at * at + step for at in range(len(kinds))],
                              [0] * step + [1] * (len(kinds) - step), [BIG // (at + step) for at in range(len(kinds))]]:
                    marks = marks[:len(kinds)]
                    uneven = [i for i, numbers in enumerate(found)
                              if sum(marks[kinds_told[0]] for kinds_told in numbers) % len(numbers) != 0]
                    self.assertEqual(first_uneven(house, kinds, marks), uneven[0] if uneven else None)

    def test_of_marks_of_any_counts(self):
        for house in small_houses() + large_houses():
            kinds = kinds_of(house)
            table = table_of(house, kinds)
            counts = [(-1) ** at * (BIG // (at + 1)) for at in range(len(kinds))]
            self.assertIsNone(first_uneven(house, kinds, marks_by(table, counts)))
            self.assertIsNone(first_uneven(house, kinds, [1] * len(kinds)))

    def test_one_more_at_each_kind(self):
        for house in [house_by(SYM4), house_by(ALT5), twos(16)]:
            kinds = kinds_of(house)
            table = table_of(house, kinds)
            for kind in range(0, len(kinds), 1 + len(kinds) // 12):
                marks = marks_by(table, [BIG] * len(kinds))
                marks[kind] += 1
                told = first_uneven(house, kinds, marks)
                self.assertIs(told is None, is_solved(table, marks))

    def test_those_that_are_known(self):
        self.assertIsNone(first_uneven([[0]], [(0,)], [-3]))
        self.assertEqual(first_uneven(cyclic(2), [(0,), (0, 1)], [1, 0]), 0)
        self.assertIsNone(first_uneven(cyclic(2), [(0,), (0, 1)], [1, -1]))
        house = house_by(SYM3)
        kinds = kinds_of(house)
        self.assertIsNone(first_uneven(house, kinds, [12, 2, 3, 1]))
        self.assertEqual(first_uneven(house, kinds, [1, 0, 0, 0]), 0)
        # Of the two uneven ones, 0 and 2, the first is told.
        self.assertEqual(first_uneven(house, kinds, [0, 0, 1, 0]), 0)
        # 2 alone is uneven: 3 times 1 and 3 are 6, but 1 and 0 are no even number.
        self.assertEqual(first_uneven(house, kinds, [1, 1, 1, 0]), 2)

    def test_nothing_given_is_changed(self):
        for marks in [[1, 0, 0, 0], [12, 2, 3, 1]]:
            check_own(self, first_uneven, house_by(SYM3), kinds_of(house_by(SYM3)), marks)

    def test_asked_again_behind_a_change(self):
        # The same lists, another house in them: nothing may be kept of what they were.
        house = house_by(SYM3)
        kinds = kinds_of(house)
        marks = [12, 2, 3, 1]
        self.assertEqual(stayer_sums(house, kinds, marks), [(24, 6), (2, 1), (4, 2), (1, 1)])
        house[:] = cyclic(6)
        kinds[:] = kinds_of(house)
        self.assertEqual(stayer_sums(house, kinds, marks), [(22, 6), (4, 3), (4, 2), (1, 1)])
        self.assertEqual(first_uneven(house, kinds, marks), 0)
        for row, other in zip(house, house_by(SYM3)):
            row[:] = other
        kinds[:] = kinds_of(house)
        self.assertEqual(stayer_sums(house, kinds, marks), [(24, 6), (2, 1), (4, 2), (1, 1)])
        self.assertIsNone(first_uneven(house, kinds, marks))

    def test_what_is_changed_in_place(self):
        house, marks = cyclic(2), [1, 0]
        kinds = kinds_of(house)
        self.assertEqual(first_uneven(house, kinds, marks), 0)
        marks[0] = 2
        self.assertIsNone(first_uneven(house, kinds, marks))
        house[:] = cyclic(3)
        self.assertEqual(first_uneven(house, kinds_of(house), marks), 0)
        self.assertEqual(growths(house, kinds_of(house)), [(0, 1, 3)])


def first_of(numbers):
    return numbers[0]


def last_of(numbers):
    return numbers[-1]


if __name__ == "__main__":
    unittest.main()
