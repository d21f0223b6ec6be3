"""[6]: what a house is, contraries and lengths."""

import copy
import unittest

from helpers import (ALT5, LOOP, SEVEN, SYM4_AND_TWO, check_own, cyclic, house_by, numbered_anew, odd_things,
                     quaternions, small_houses, twos)
from heldmarks.groups import group_of, house_of
from heldmarks.houses import contraries, is_house, lengths
from heldmarks.turns import contrary, length


def with_entry(house, a, b, entry):
    """A copy of the house with another entry at a, b."""
    told = copy.deepcopy(house)
    told[a][b] = entry
    return told


def nought_rule(house):
    return all(house[0][a] == a == house[a][0] for a in range(len(house)))


def once_rule(house):
    whole = list(range(len(house)))
    return all(sorted(row) == whole for row in house) and all(sorted(row) == whole for row in zip(*house))


def bound_rule(house):
    numbers = range(len(house))
    return all(house[house[a][b]][c] == house[a][house[b][c]] for a in numbers for b in numbers for c in numbers)


class TestIsHouse(unittest.TestCase):
    def test_houses(self):
        for house in small_houses() + [house_by(SEVEN), house_by(SYM4_AND_TWO), twos(16), cyclic(30)]:
            self.assertIs(is_house(house), True)

    def test_whatever_thing(self):
        for thing in odd_things() + [0, 1, "house", ((0,),), ([0],), {0: [0]}]:
            if thing != [[0]]:
                self.assertIs(is_house(thing), False)

    def test_one_number(self):
        self.assertIs(is_house([[0]]), True)
        for thing in [[[]], [[1]], [[-1]], [[0, 0]], [0], [(0,)], ([0],), [[False]], [["0"]], [[None]], [[[0]]]]:
            self.assertIs(is_house(thing), False)

    def test_no_lists(self):
        self.assertIs(is_house([]), False)
        self.assertIs(is_house(()), False)

    def test_sixty_and_sixty_one_lists(self):
        self.assertIs(is_house(house_by(ALT5)), True)
        self.assertIs(is_house(cyclic(60)), True)
        self.assertIs(is_house(cyclic(61)), False)
        self.assertIs(is_house(cyclic(120)), False)

    def test_the_rule_of_nought_broken_alone(self):
        # Numbers are named anew so that another one than 0 is at rest.
        for thing in [[[1, 0], [0, 1]], numbered_anew(cyclic(3), [1, 0, 2]), numbered_anew(twos(8), list(range(8))[::-1])]:
            self.assertFalse(nought_rule(thing))
            self.assertTrue(once_rule(thing) and bound_rule(thing))
            self.assertIs(is_house(thing), False)

    def test_the_rule_of_each_once_broken_alone(self):
        for thing in [[[0, 1], [1, 1]], [[0, 1, 2], [1, 1, 1], [2, 2, 2]], [[0, 1, 2], [1, 1, 2], [2, 1, 2]]]:
            self.assertFalse(once_rule(thing))
            self.assertTrue(nought_rule(thing) and bound_rule(thing))
            self.assertIs(is_house(thing), False)

    def test_the_rule_of_binding_broken_alone(self):
        self.assertTrue(nought_rule(LOOP) and once_rule(LOOP))
        self.assertFalse(bound_rule(LOOP))
        self.assertIs(is_house(LOOP), False)

    def test_binding_broken_in_a_few_places_of_a_big_one(self):
        # A small square of two numbers is turned round: rows and columns still have each number once.
        thing = twos(16)
        thing[14][13], thing[14][15], thing[12][13], thing[12][15] = (
            thing[14][15], thing[14][13], thing[12][15], thing[12][13])
        self.assertTrue(nought_rule(thing) and once_rule(thing))
        self.assertFalse(bound_rule(thing))
        self.assertIs(is_house(thing), False)

    def test_tuples_for_lists(self):
        house = cyclic(3)
        self.assertIs(is_house(tuple(house)), False)
        self.assertIs(is_house([tuple(row) for row in house]), False)
        self.assertIs(is_house([house[0], house[1], tuple(house[2])]), False)
        self.assertIs(is_house([tuple(house[0]), house[1], house[2]]), False)

    def test_truths_for_numbers(self):
        self.assertIs(is_house([[0, True], [True, 0]]), False)
        self.assertIs(is_house([[False, 1], [1, 0]]), False)
        self.assertIs(is_house([[0, 1], [1, False]]), False)
        self.assertIs(is_house(with_entry(cyclic(5), 3, 3, True)), False)

    def test_what_is_no_number(self):
        house = cyclic(4)
        for a, b in [(0, 0), (0, 3), (2, 0), (1, 2), (3, 3)]:
            for odd in odd_things() + [4, 5, -4]:
                self.assertIs(is_house(with_entry(house, a, b, odd)), False)

    def test_what_is_no_list_for_a_row(self):
        for odd in odd_things() + [0, 1, "012", {0: 0, 1: 1, 2: 2}, range(3)]:
            for place in range(3):
                thing = cyclic(3)
                thing[place] = odd
                self.assertIs(is_house(thing), False)

    def test_lists_of_other_lengths(self):
        house = cyclic(4)
        for place in range(4):
            for row in [house[place][:3], house[place] + [0], house[place] + [4], []]:
                self.assertIs(is_house(house[:place] + [row] + house[place + 1:]), False)
        self.assertIs(is_house(house[:3]), False)
        self.assertIs(is_house(house + [[0, 1, 2, 3]]), False)
        self.assertIs(is_house([row[:3] for row in house]), False)

    def test_any_other_entry(self):
        for house in [cyclic(4), twos(4), house_by([(1, 0, 2), (1, 2, 0)])]:
            for a in range(len(house)):
                for b in range(len(house)):
                    for entry in range(len(house)):
                        self.assertIs(is_house(with_entry(house, a, b, entry)), entry == house[a][b])

    def test_nothing_given_is_changed(self):
        for thing in [cyclic(6), LOOP, [[0, 1], [1, 1]], [[0], [1]]]:
            check_own(self, is_house, copy.deepcopy(thing))


class TestContrariesAndLengths(unittest.TestCase):
    def test_contraries(self):
        for house in small_houses() + [house_by(ALT5)]:
            told = contraries(house)
            self.assertIsInstance(told, list)
            self.assertEqual(len(told), len(house))
            for a, back in enumerate(told):
                self.assertEqual(house[a][back], 0)
                self.assertEqual(house[back][a], 0)

    def test_lengths(self):
        for house in small_houses() + [house_by(ALT5)]:
            told = lengths(house)
            self.assertIsInstance(told, list)
            self.assertEqual(len(told), len(house))
            for a, times in enumerate(told):
                come_to, taken = a, 1
                while come_to != 0:
                    come_to = house[come_to][a]
                    taken += 1
                self.assertEqual(times, taken)

    def test_those_that_are_known(self):
        self.assertEqual(contraries(cyclic(6)), [0, 5, 4, 3, 2, 1])
        self.assertEqual(lengths(cyclic(6)), [1, 6, 3, 2, 3, 6])
        self.assertEqual(contraries(twos(8)), list(range(8)))
        self.assertEqual(lengths(twos(8)), [1] + [2] * 7)
        self.assertEqual(sorted(lengths(quaternions())), [1, 2] + [4] * 6)
        self.assertEqual((contraries([[0]]), lengths([[0]])), ([0], [1]))

    def test_they_are_those_of_the_turns(self):
        group = group_of(7, SEVEN)
        house = house_of(group)
        self.assertEqual(contraries(house), [group.index(contrary(turn)) for turn in group])
        self.assertEqual(lengths(house), [length(turn) for turn in group])

    def test_the_lists_are_the_askers_own(self):
        for house in small_houses():
            check_own(self, contraries, copy.deepcopy(house))
            check_own(self, lengths, copy.deepcopy(house))


if __name__ == "__main__":
    unittest.main()
