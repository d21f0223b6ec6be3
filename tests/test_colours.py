"""[21] and [22]: colourings and their patterns, of all colours and with amounts."""

import copy
import itertools
import math
import unittest

from helpers import (ALT4, SEVEN, SQUARE, SYM3, SYM4, SYM4_AND_TWO, check_own, check_refused, cyclic, house_by,
                     large_houses, quaternions, twos)
from plain import all_colourings, colouring_set, plain_counts, plain_marks, plain_pieces, plain_share_set
from heldmarks.colours import amount_marks, amounts_by, amounts_in_all, colour_marks, patterns, patterns_by
from heldmarks.errors import NoColours
from heldmarks.groups import group_of, house_of
from heldmarks.kinds import kinds_of
from heldmarks.marks import table_of
from heldmarks.moved import set_of_counts, set_of_shares, set_of_things
from heldmarks.parts import part_of
from heldmarks.solving import marks_by

BIG = 10 ** 30 - 7


def of_turns(turns):
    """The house of a group, and the set of its things."""
    group = group_of(len(turns[0]), turns)
    return house_of(group), set_of_things(group)


def small_sets():
    """Houses with sets of a few things, one without things for each of some houses."""
    told = [of_turns(turns) for turns in [SYM3, SQUARE, ALT4, SYM4, [(1, 0, 3, 2)], [(0, 1, 2)], [(0,)]]]
    for house in [cyclic(1), cyclic(2), cyclic(4), twos(4), house_by(SYM3)]:
        told.append((house, [[] for _ in house]))
        told += [(house, plain_share_set(house, part)) for part in kinds_of(house)]
    house = house_by(SYM3)
    told.append((house, set_of_counts(house, kinds_of(house), [0, 1, 0, 2])))
    told.append((quaternions(), set_of_counts(quaternions(), kinds_of(quaternions()), [0, 1, 0, 0, 0, 1])))
    return told


def cube():
    """The house of the turns of a cube, its six faces and its eight corners."""
    group = group_of(4, SYM4)
    house = house_of(group)
    round_face = group.index((1, 2, 3, 0))
    round_corner = group.index((1, 2, 0, 3))
    return (house, set_of_shares(house, part_of(house, [round_face])),
            set_of_shares(house, part_of(house, [round_corner])))


def amounts_of(many, colours):
    """All lists of so many amounts, of which one thing after another has its colour."""
    return [list(amounts) for amounts in itertools.product(range(many + 1), repeat=colours) if sum(amounts) == many]


def with_amounts(many, amounts):
    return [colouring for colouring in all_colourings(many, len(amounts))
            if [colouring.count(colour) for colour in range(len(amounts))] == amounts]


SMALL = small_sets()


class TestColours(unittest.TestCase):
    def test_by_going_through_all_colourings(self):
        for house, rows in SMALL:
            kinds = kinds_of(house)
            for colours in range(4 if len(rows[0]) < 5 else 3):
                coloured = colouring_set(rows, all_colourings(len(rows[0]), colours))
                self.assertEqual(colour_marks(kinds, rows, colours), plain_marks(kinds, coloured))
                self.assertEqual(patterns_by(house, kinds, rows, colours), plain_counts(house, kinds, coloured))
                self.assertEqual(patterns(rows, colours), len(plain_pieces(coloured)))

    def test_they_are_lists_and_a_number(self):
        house, rows = of_turns(SQUARE)
        self.assertIsInstance(colour_marks(kinds_of(house), rows, 2), list)
        self.assertIsInstance(patterns_by(house, kinds_of(house), rows, 2), list)
        self.assertIsInstance(patterns(rows, 2), int)

    def test_no_colours(self):
        for house, rows in SMALL:
            kinds = kinds_of(house)
            if rows[0]:
                self.assertEqual(colour_marks(kinds, rows, 0), [0] * len(kinds))
                self.assertEqual(patterns_by(house, kinds, rows, 0), [0] * len(kinds))
                self.assertEqual(patterns(rows, 0), 0)

    def test_one_colour(self):
        for house, rows in SMALL:
            kinds = kinds_of(house)
            self.assertEqual(colour_marks(kinds, rows, 1), [1] * len(kinds))
            self.assertEqual(patterns_by(house, kinds, rows, 1), [0] * (len(kinds) - 1) + [1])
            self.assertEqual(patterns(rows, 1), 1)

    def test_without_things(self):
        for house in [cyclic(1), house_by(SYM3), house_by(SEVEN)]:
            kinds = kinds_of(house)
            rows = [[] for _ in house]
            for colours in [0, 1, 2, BIG]:
                self.assertEqual(colour_marks(kinds, rows, colours), [1] * len(kinds))
                self.assertEqual(patterns_by(house, kinds, rows, colours), [0] * (len(kinds) - 1) + [1])
                self.assertEqual(patterns(rows, colours), 1)

    def test_those_that_are_known(self):
        _, rows = of_turns([(1, 2, 3, 0)])
        self.assertEqual([patterns(rows, colours) for colours in range(5)], [0, 1, 6, 24, 70])
        _, rows = of_turns(SQUARE)
        self.assertEqual([patterns(rows, colours) for colours in range(5)], [0, 1, 6, 21, 55])
        _, faces, corners = cube()
        self.assertEqual([patterns(faces, colours) for colours in range(5)], [0, 1, 10, 57, 240])
        self.assertEqual([patterns(corners, colours) for colours in range(4)], [0, 1, 23, 333])
        house, rows = of_turns(SYM3)
        self.assertEqual(colour_marks(kinds_of(house), rows, 2), [8, 4, 2, 2])
        self.assertEqual(patterns_by(house, kinds_of(house), rows, 2), [0, 2, 0, 2])
        self.assertEqual(patterns_by(house, kinds_of(house), rows, 3), [1, 6, 0, 3])

    def test_numbers_of_colours_of_many_figures(self):
        for house, rows in SMALL + [cube()[:2], cube()[::2]]:
            kinds = kinds_of(house)
            marks = colour_marks(kinds, rows, BIG)
            self.assertEqual(marks, [BIG ** len(plain_pieces([rows[number] for number in part])) for part in kinds])
            counts = patterns_by(house, kinds, rows, BIG)
            self.assertTrue(all(count >= 0 for count in counts))
            self.assertEqual(marks_by(table_of(house, kinds), counts), marks)
            self.assertEqual(patterns(rows, BIG), sum(counts))

    def test_twelve_things_of_large_houses(self):
        for house in large_houses():
            kinds = kinds_of(house)
            table = table_of(house, kinds)
            some = [part for part in kinds if len(house) // len(part) <= 12]
            for part in some[::1 + len(some) // 8]:
                rows = set_of_shares(house, part)
                for colours in [3, BIG]:
                    counts = patterns_by(house, kinds, rows, colours)
                    self.assertEqual(sum(counts), patterns(rows, colours))
                    self.assertEqual(marks_by(table, counts), colour_marks(kinds, rows, colours))

    def test_twelve_things_that_stay(self):
        house = house_by(SYM4_AND_TWO)
        kinds = kinds_of(house)
        rows = [list(range(12)) for _ in house]
        self.assertEqual(colour_marks(kinds, rows, BIG), [BIG ** 12] * len(kinds))
        self.assertEqual(patterns_by(house, kinds, rows, BIG), [0] * (len(kinds) - 1) + [BIG ** 12])
        self.assertEqual(patterns(rows, BIG), BIG ** 12)

    def test_what_is_told_is_the_askers_own(self):
        for house, rows in SMALL[::3]:
            kinds = kinds_of(house)
            check_own(self, colour_marks, list(kinds), copy.deepcopy(rows), 2)
            check_own(self, patterns_by, copy.deepcopy(house), list(kinds), copy.deepcopy(rows), 2)
            check_own(self, patterns, copy.deepcopy(rows), 2)

    def test_a_set_that_is_changed_in_place(self):
        house, rows = cyclic(2), [[0, 1], [1, 0]]
        kinds = kinds_of(house)
        self.assertEqual((patterns(rows, 3), patterns_by(house, kinds, rows, 3)), (6, [3, 3]))
        self.assertEqual((amounts_in_all(house, kinds, rows, [1, 1]), amount_marks(kinds, rows, [1, 1])), (1, [2, 0]))
        rows[1][:] = [0, 1]
        self.assertEqual((patterns(rows, 3), patterns_by(house, kinds, rows, 3)), (9, [0, 9]))
        self.assertEqual((amounts_in_all(house, kinds, rows, [1, 1]), amount_marks(kinds, rows, [1, 1])), (2, [2, 2]))


class TestAmounts(unittest.TestCase):
    def check_amounts(self, house, rows, amounts):
        kinds = kinds_of(house)
        coloured = colouring_set(rows, with_amounts(len(rows[0]), amounts))
        self.assertEqual(amount_marks(kinds, rows, amounts), plain_marks(kinds, coloured))
        self.assertEqual(amounts_by(house, kinds, rows, amounts), plain_counts(house, kinds, coloured))
        self.assertEqual(amounts_in_all(house, kinds, rows, amounts), len(plain_pieces(coloured)))

    def test_by_going_through_all_colourings(self):
        for house, rows in SMALL:
            most = 4 if len(rows[0]) < 4 else 2
            for colours in range(1, most + 1):
                for amounts in amounts_of(len(rows[0]), colours):
                    self.check_amounts(house, rows, amounts)

    def test_three_and_four_amounts(self):
        for turns in [SQUARE, SYM4, [(1, 0, 3, 2)]]:
            house, rows = of_turns(turns)
            for amounts in [[2, 1, 1], [1, 1, 1, 1], [0, 2, 0, 2], [2, 0, 1, 1], [4, 0, 0, 0], [0, 0, 3, 1]]:
                self.check_amounts(house, rows, amounts)
        house, rows = cube()[:2]
        for amounts in [[2, 2, 2], [3, 3], [4, 2], [1, 5, 0], [2, 2, 1, 1]]:
            self.check_amounts(house, rows, amounts)

    def test_without_things(self):
        for house in [cyclic(1), house_by(SYM3)]:
            kinds = kinds_of(house)
            rows = [[] for _ in house]
            for many in range(1, 5):
                self.assertEqual(amount_marks(kinds, rows, [0] * many), [1] * len(kinds))
                self.assertEqual(amounts_by(house, kinds, rows, [0] * many), [0] * (len(kinds) - 1) + [1])
                self.assertEqual(amounts_in_all(house, kinds, rows, [0] * many), 1)

    def test_eight_things(self):
        house, _, corners = cube()
        kinds = kinds_of(house)
        self.assertEqual([amounts_in_all(house, kinds, corners, [k, 8 - k]) for k in range(9)],
                         [1, 1, 3, 3, 7, 3, 3, 1, 1])
        self.assertEqual(amounts_in_all(house, kinds, corners, [8]), 1)
        self.assertEqual(amounts_in_all(house, kinds, corners, [0, 8, 0, 0]), 1)
        self.assertEqual(amount_marks(kinds, corners, [2, 2, 2, 2])[0], 2520)
        # 2520 of the stay, and 24 of each of the nine turns that lead corners by twos.
        self.assertEqual(amounts_in_all(house, kinds, corners, [2, 2, 2, 2]), (2520 + 9 * 24) // 24)
        marks = amount_marks(kinds, corners, [2, 2, 2, 2])
        self.assertEqual(marks_by(table_of(house, kinds), amounts_by(house, kinds, corners, [2, 2, 2, 2])), marks)

    def test_eight_things_in_any_amounts(self):
        house, _, corners = cube()
        kinds = kinds_of(house)
        for colours in range(1, 5):
            told = [amounts_in_all(house, kinds, corners, amounts) for amounts in amounts_of(8, colours)]
            self.assertEqual(sum(told), patterns(corners, colours))

    def test_things_that_stay(self):
        house = house_by(SYM4_AND_TWO)
        kinds = kinds_of(house)
        for amounts in [[2, 2, 2, 2], [5, 1, 1, 1], [0, 3, 5, 0], [8]]:
            ways = math.factorial(8)
            for amount in amounts:
                ways //= math.factorial(amount)
            rows = [list(range(8)) for _ in house]
            self.assertEqual(amount_marks(kinds, rows, amounts), [ways] * len(kinds))
            self.assertEqual(amounts_by(house, kinds, rows, amounts), [0] * (len(kinds) - 1) + [ways])
            self.assertEqual(amounts_in_all(house, kinds, rows, amounts), ways)

    def test_all_amounts_are_all_colourings(self):
        for house, rows in SMALL:
            kinds = kinds_of(house)
            for colours in [1, 2, 3]:
                told = [amount_marks(kinds, rows, amounts) for amounts in amounts_of(len(rows[0]), colours)]
                self.assertEqual([sum(column) for column in zip(*told)], colour_marks(kinds, rows, colours))

    def test_the_sum_is_another(self):
        for house, rows in SMALL:
            kinds = kinds_of(house)
            many = len(rows[0])
            wrong = [[many + 1], [many, 1], [many, many + 1, 0], [BIG], [0, 0, 0, BIG], [many, 0, 1, 0], [BIG, many]]
            if many > 0:
                wrong += [[0], [0, 0, 0, 0], [many - 1], [many - 1, 0], [0, many - 1, 0, 0]]
            for amounts in wrong:
                check_refused(self, NoColours, amount_marks, kinds, rows, amounts)
                check_refused(self, NoColours, amounts_by, house, kinds, rows, amounts)
                check_refused(self, NoColours, amounts_in_all, house, kinds, rows, amounts)

    def test_what_is_told_is_the_askers_own(self):
        for house, rows in SMALL[::3]:
            kinds = kinds_of(house)
            for amounts in amounts_of(len(rows[0]), 2)[:2]:
                check_own(self, amount_marks, list(kinds), copy.deepcopy(rows), list(amounts))
                check_own(self, amounts_by, copy.deepcopy(house), list(kinds), copy.deepcopy(rows), list(amounts))
                check_own(self, amounts_in_all, copy.deepcopy(house), list(kinds), copy.deepcopy(rows), list(amounts))


if __name__ == "__main__":
    unittest.main()
