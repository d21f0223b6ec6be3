"""[7]: parts of a house, led, their stayers, and what two have in common."""

import copy
import itertools
import unittest

from helpers import (ALT5, SYM3, SYM4, check_own, check_refused, cyclic, house_by, odd_things, quaternions,
                     small_houses, twos)
from plain import plain_part
from heldmarks.errors import NoNumber
from heldmarks.houses import contraries
from heldmarks.parts import common, is_part, led, part_of, stayers


def plain_parts(house):
    """Some parts of a house, all those of two numbers."""
    many = range(len(house))
    return sorted({plain_part(house, [a, b]) for a in many for b in many})


class TestPartOf(unittest.TestCase):
    def test_of_no_numbers(self):
        for house in small_houses():
            self.assertEqual(part_of(house, []), (0,))

    def test_of_one_and_of_two(self):
        for house in small_houses():
            for a in range(len(house)):
                self.assertEqual(part_of(house, [a]), plain_part(house, [a]))
                for b in range(len(house)):
                    self.assertEqual(part_of(house, [a, b]), plain_part(house, [a, b]))

    def test_of_several(self):
        for numbers in itertools.combinations(range(16), 3):
            self.assertEqual(part_of(twos(16), list(numbers)), plain_part(twos(16), numbers))

    def test_those_that_are_known(self):
        self.assertEqual(part_of(cyclic(12), [8]), (0, 4, 8))
        self.assertEqual(part_of(cyclic(12), [8, 6]), (0, 2, 4, 6, 8, 10))
        self.assertEqual(part_of(cyclic(12), [5]), tuple(range(12)))
        self.assertEqual(part_of(twos(8), [6, 3]), (0, 3, 5, 6))
        self.assertEqual(part_of([[0]], [0]), (0,))
        self.assertEqual(part_of(house_by(SYM3), [3]), (0, 3, 4))

    def test_with_some_twice_and_in_any_order(self):
        self.assertEqual(part_of(cyclic(12), [6, 8, 6, 0, 8]), (0, 2, 4, 6, 8, 10))
        self.assertEqual(part_of(cyclic(12), [4] * 1000), (0, 4, 8))
        self.assertEqual(part_of(house_by(SYM4), [7, 3, 7]), part_of(house_by(SYM4), [3, 7]))

    def test_of_all(self):
        for house in small_houses() + [house_by(ALT5)]:
            self.assertEqual(part_of(house, list(range(len(house)))), tuple(range(len(house))))

    def test_what_is_no_number_of_the_house(self):
        house = house_by(SYM3)
        for odd in odd_things() + [6, 7, -6, "1", (1,), [1], {1: 1}]:
            for numbers in [[odd], [odd, 1], [1, odd, 2], [1, 2, 3, 4, 5, odd], [0, 1, 2, 3, 4, 5, odd]]:
                check_refused(self, NoNumber, part_of, house, numbers)

    def test_as_many_as_there_are(self):
        check_refused(self, NoNumber, part_of, [[0]], [1])
        check_refused(self, NoNumber, part_of, [[0]], [-1])
        check_refused(self, NoNumber, part_of, house_by(ALT5), [60])
        self.assertEqual(len(part_of(house_by(ALT5), [59])), 2)

    def test_nothing_given_is_changed(self):
        check_own(self, part_of, house_by(SYM4), [9, 4, 9])


class TestIsPart(unittest.TestCase):
    def test_every_tuple_of_rising_numbers(self):
        for house in [cyclic(6), house_by(SYM3), twos(8), quaternions(), cyclic(7)]:
            numbers = range(len(house))
            for many in range(len(house) + 1):
                for thing in itertools.combinations(numbers, many):
                    self.assertIs(is_part(house, thing), bool(thing) and plain_part(house, thing) == thing)

    def test_of_a_house_of_sixty_numbers(self):
        house = house_by(ALT5)
        self.assertIs(is_part(house, tuple(range(60))), True)
        self.assertIs(is_part(house, tuple(range(59))), False)
        self.assertIs(is_part(house, (0,)), True)
        for number in range(60):
            self.assertIs(is_part(house, plain_part(house, [number])), True)

    def test_whatever_thing(self):
        for thing in odd_things() + [0, 1, "0", range(1), b"\x00"]:
            self.assertIs(is_part(cyclic(4), thing), False)

    def test_not_rising_or_a_number_twice(self):
        for thing in [(2, 0), (0, 2, 0), (0, 0), (0, 0, 2), (0, 2, 2), (0, 3, 2, 1), (0, 1, 3, 2), (1, 0, 2, 3)]:
            self.assertIs(is_part(cyclic(4), thing), False)

    def test_without_nought(self):
        for thing in [(), (2,), (1, 2, 3), (1, 3)]:
            self.assertIs(is_part(cyclic(4), thing), False)

    def test_not_closed(self):
        for thing in [(0, 1), (0, 1, 2), (0, 2, 3), (0, 3)]:
            self.assertIs(is_part(cyclic(4), thing), False)

    def test_a_list(self):
        self.assertIs(is_part(cyclic(4), [0, 2]), False)
        self.assertIs(is_part(cyclic(4), [0]), False)

    def test_a_truth_among_the_numbers(self):
        for thing in [(False,), (False, 2), (0, True, 2, 3), (False, 1, 2, 3), (0, True)]:
            self.assertIs(is_part(cyclic(4), thing), False)
        self.assertIs(is_part(cyclic(2), (0, True)), False)

    def test_what_is_no_number_within(self):
        for odd in odd_things() + [4, 5, 6]:
            for thing in [(odd,), (0, odd), (odd, 2), (0, 1, 2, odd), (0, 1, 2, 3, odd), (0, odd, 2)]:
                self.assertIs(is_part(cyclic(4), thing), False)

    def test_nothing_given_is_changed(self):
        for thing in [(0, 2), [0, 2], (0, [2]), [[0]], "a"]:
            check_own(self, is_part, cyclic(4), thing)


class TestLed(unittest.TestCase):
    def test_by_the_numbers_told(self):
        for house in small_houses():
            back = contraries(house)
            for part in plain_parts(house):
                for number in range(len(house)):
                    numbers = [house[house[back[number]][inner]][number] for inner in part]
                    told = led(house, part, number)
                    self.assertIsInstance(told, tuple)
                    self.assertEqual(told, plain_part(house, numbers))

    def test_by_nought(self):
        for house in small_houses():
            for part in plain_parts(house):
                self.assertEqual(led(house, part, 0), part)

    def test_by_one_and_then_another(self):
        for house in [house_by(SYM3), house_by(SYM4)]:
            for part in [(0,), part_of(house, [1]), part_of(house, [2]), part_of(house, [3])]:
                for one in range(len(house)):
                    for other in range(len(house)):
                        self.assertEqual(led(house, led(house, part, one), other),
                                         led(house, part, house[one][other]))

    def test_that_is_known(self):
        house = house_by(SYM3)
        # The one that changes 1 and 2, led by the one that changes 0 and 1, changes 0 and 2.
        self.assertEqual(led(house, (0, 1), 2), (0, 5))
        # Led round by (1, 2, 0) it changes where 1 and 2 are led: 2 and 0. The other way round: 0 and 1.
        self.assertEqual(led(house, (0, 1), 3), (0, 5))
        self.assertEqual(led(house, (0, 1), 4), (0, 2))

    def test_what_is_no_number_to_lead_by(self):
        house = house_by(SYM3)
        for odd in odd_things() + [6, 7, -6]:
            check_refused(self, NoNumber, led, house, (0, 1), odd)
            check_refused(self, NoNumber, led, house, (0,), odd)

    def test_nothing_given_is_changed(self):
        check_own(self, led, house_by(SYM4), (0, 1), 5)


class TestStayersAndCommon(unittest.TestCase):
    def test_stayers(self):
        for house in small_houses():
            back = contraries(house)
            for part in plain_parts(house):
                told = stayers(house, part)
                self.assertIs(is_part(house, told), True)
                for number in range(len(house)):
                    numbers = {house[house[back[number]][inner]][number] for inner in part}
                    self.assertEqual(number in told, numbers == set(part))

    def test_stayers_that_are_known(self):
        house = house_by(SYM3)
        self.assertEqual(stayers(house, (0,)), (0, 1, 2, 3, 4, 5))
        self.assertEqual(stayers(house, (0, 1)), (0, 1))
        self.assertEqual(stayers(house, (0, 3, 4)), (0, 1, 2, 3, 4, 5))
        self.assertEqual(len(stayers(house_by(ALT5), part_of(house_by(ALT5), [59]))), 4)

    def test_common(self):
        for house in small_houses():
            for one in plain_parts(house):
                for other in plain_parts(house):
                    told = common(one, other)
                    self.assertEqual(told, tuple(sorted(set(one) & set(other))))
                    self.assertIs(is_part(house, told), True)

    def test_common_that_is_known(self):
        self.assertEqual(common((0, 2, 4, 6, 8, 10), (0, 3, 6, 9)), (0, 6))
        self.assertEqual(common((0,), (0, 1, 2)), (0,))

    def test_nothing_given_is_changed(self):
        check_own(self, stayers, house_by(SYM4), (0, 1))
        check_own(self, common, (0, 2, 4), (0, 3))

    def test_a_house_that_is_changed_in_place(self):
        house = cyclic(4)
        self.assertEqual(part_of(house, [1]), (0, 1, 2, 3))
        self.assertIs(is_part(house, (0, 1)), False)
        for row, other in zip(house, twos(4)):
            row[:] = other
        self.assertEqual(part_of(house, [1]), (0, 1))
        self.assertIs(is_part(house, (0, 1)), True)
        house[:] = copy.deepcopy(house_by(SYM3))
        self.assertEqual(stayers(house, (0, 1)), (0, 1))
        self.assertEqual(led(house, (0, 1), 2), (0, 5))


if __name__ == "__main__":
    unittest.main()
