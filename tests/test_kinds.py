"""[9] and [10]: all parts of a house, and their kinds."""

import itertools
import unittest

from helpers import (ALT4, ALT5, SEVEN, SQUARE, SYM3, SYM4, SYM4_AND_TWO, check_own, cyclic, house_by,
                     numbered_anew, paired_house, quaternions, small_houses, twos)
from plain import plainly_led
from heldmarks.kinds import all_parts, kind_of, kinds_of, many_of
from heldmarks.parts import is_part, led, stayers

# How many parts and how many kinds there are.
KNOWN = [
    (cyclic(1), 1, 1), (cyclic(7), 2, 2), (cyclic(12), 6, 6), (cyclic(30), 8, 8), (twos(4), 5, 5), (twos(8), 16, 16),
    (twos(16), 67, 67), (house_by(SYM3), 6, 4), (house_by(SQUARE), 10, 8), (quaternions(), 6, 6),
    (house_by(ALT4), 10, 5), (house_by(SYM4), 30, 11), (house_by(ALT5), 59, 9), (house_by(SYM4_AND_TWO), 98, 33),
    (house_by(SEVEN), 26, 8), (paired_house(cyclic(3), twos(8)), 32, 32), (paired_house(cyclic(5), cyclic(5)), 8, 8),
]


def plain_parts(house):
    """All parts, by going through all sets of numbers that have 0."""
    others = range(1, len(house))
    told = []
    for many in range(len(house)):
        for numbers in itertools.combinations(others, many):
            part = (0,) + numbers
            if {house[a][b] for a in part for b in part} == set(part):
                told.append(part)
    return told


class TestAllParts(unittest.TestCase):
    def test_by_all_sets_of_numbers(self):
        for house in small_houses():
            if len(house) <= 12:
                self.assertEqual(all_parts(house), plain_parts(house))

    def test_houses_whose_parts_are_known(self):
        for house, many, _ in KNOWN:
            told = all_parts(house)
            self.assertIsInstance(told, list)
            self.assertEqual(len(told), many)
            self.assertEqual(len(set(told)), many)
            self.assertTrue(all(is_part(house, part) for part in told))

    def test_parts_that_are_known(self):
        self.assertEqual(all_parts([[0]]), [(0,)])
        self.assertEqual(all_parts(house_by(SYM3)),
                         [(0,), (0, 1), (0, 2), (0, 5), (0, 3, 4), (0, 1, 2, 3, 4, 5)])
        self.assertEqual(all_parts(twos(4)), [(0,), (0, 1), (0, 2), (0, 3), (0, 1, 2, 3)])

    def test_in_their_order(self):
        for house, _, _ in KNOWN:
            told = all_parts(house)
            self.assertEqual(told, sorted(told, key=lambda part: (len(part), part)))
            self.assertEqual((told[0], told[-1]), ((0,), tuple(range(len(house)))))

    def test_how_many_of_sixty_numbers_have_which_size(self):
        sizes = [len(part) for part in all_parts(house_by(ALT5))]
        self.assertEqual({size: sizes.count(size) for size in sizes},
                         {1: 1, 2: 15, 3: 10, 4: 5, 5: 6, 6: 10, 10: 6, 12: 5, 60: 1})

    def test_how_many_of_sixteen_numbers_have_which_size(self):
        sizes = [len(part) for part in all_parts(twos(16))]
        self.assertEqual({size: sizes.count(size) for size in sizes}, {1: 1, 2: 15, 4: 35, 8: 15, 16: 1})

    def test_numbered_anew(self):
        house = house_by(SYM4)
        order = [0] + list(range(23, 0, -1))
        anew = {tuple(sorted(order[number] for number in part)) for part in all_parts(house)}
        self.assertEqual(set(all_parts(numbered_anew(house, order))), anew)

    def test_the_list_is_the_askers_own(self):
        check_own(self, all_parts, house_by(SYM4))


class TestKindsOf(unittest.TestCase):
    def test_houses_whose_kinds_are_known(self):
        for house, _, many in KNOWN:
            self.assertEqual(len(kinds_of(house)), many)

    def test_kinds_that_are_known(self):
        self.assertEqual(kinds_of([[0]]), [(0,)])
        self.assertEqual(kinds_of(house_by(SYM3)), [(0,), (0, 1), (0, 3, 4), (0, 1, 2, 3, 4, 5)])
        self.assertEqual(kinds_of(twos(4)), all_parts(twos(4)))

    def test_of_each_kind_the_first_part_in_order(self):
        for house, _, _ in KNOWN:
            firsts = []
            for part in all_parts(house):
                same = {plainly_led(house, part, number) for number in range(len(house))}
                if part == min(same):
                    firsts.append(part)
            self.assertEqual(kinds_of(house), firsts)

    def test_the_first_and_the_last(self):
        for house, _, _ in KNOWN:
            told = kinds_of(house)
            self.assertIsInstance(told, list)
            self.assertEqual((told[0], told[-1]), ((0,), tuple(range(len(house)))))

    def test_the_list_is_the_askers_own(self):
        check_own(self, kinds_of, house_by(SYM4))

    def test_a_house_that_is_changed_in_place(self):
        house = cyclic(6)
        self.assertEqual(len(kinds_of(house)), 4)
        self.assertEqual(kinds_of(house)[1], (0, 3))
        for row, other in zip(house, house_by(SYM3)):
            row[:] = other
        self.assertEqual(kinds_of(house), [(0,), (0, 1), (0, 3, 4), (0, 1, 2, 3, 4, 5)])
        self.assertEqual(len(all_parts(house)), 6)
        self.assertEqual(many_of(house, (0, 1)), 3)
        self.assertEqual(kind_of(house, kinds_of(house), (0, 5)), (1, 2))


class TestKindOf(unittest.TestCase):
    def test_the_kind_and_the_least_number(self):
        for house, _, _ in KNOWN:
            kinds = kinds_of(house)
            for part in all_parts(house):
                told = kind_of(house, kinds, part)
                self.assertIsInstance(told, tuple)
                kind, number = told
                self.assertEqual(plainly_led(house, part, number), kinds[kind])
                for less in range(number):
                    self.assertNotIn(plainly_led(house, part, less), kinds)

    def test_of_the_parts_told(self):
        for house, _, _ in KNOWN:
            kinds = kinds_of(house)
            for at, part in enumerate(kinds):
                self.assertEqual(kind_of(house, kinds, part), (at, 0))

    def test_those_that_are_known(self):
        house = house_by(SYM3)
        kinds = kinds_of(house)
        # (0, 2) changes 0 and 1: led round by 3 it changes 1 and 2.
        self.assertEqual(kind_of(house, kinds, (0, 2)), (1, 3))
        self.assertEqual(kind_of(house, kinds, (0, 5)), (1, 2))
        self.assertEqual(kind_of(house, kinds, (0, 3, 4)), (2, 0))

    def test_nothing_given_is_changed(self):
        house = house_by(SYM4)
        check_own(self, kind_of, house, kinds_of(house), all_parts(house)[5])


class TestManyOf(unittest.TestCase):
    def test_by_counting(self):
        for house, _, _ in KNOWN:
            for part in kinds_of(house):
                same = {led(house, part, number) for number in range(len(house))}
                self.assertEqual(many_of(house, part), len(same))
                self.assertEqual(many_of(house, part) * len(stayers(house, part)), len(house))

    def test_of_any_part_of_the_kind(self):
        house = house_by(SYM4)
        kinds = kinds_of(house)
        for part in all_parts(house):
            self.assertEqual(many_of(house, part), many_of(house, kinds[kind_of(house, kinds, part)[0]]))

    def test_those_that_are_known(self):
        house = house_by(ALT5)
        self.assertEqual([many_of(house, part) for part in kinds_of(house)], [1, 15, 10, 5, 6, 10, 6, 5, 1])

    def test_all_kinds_have_all_parts(self):
        for house, many, _ in KNOWN:
            self.assertEqual(sum(many_of(house, part) for part in kinds_of(house)), many)

    def test_nothing_given_is_changed(self):
        check_own(self, many_of, house_by(SYM4), (0, 1))


if __name__ == "__main__":
    unittest.main()
