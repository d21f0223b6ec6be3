"""[6]: groups of turns, and their houses."""

import itertools
import unittest

from helpers import (ALT4, ALT5, FOUR, SEVEN, SQUARE, SYM3, SYM4, SYM4_AND_TWO, SYM5, all_turns, check_own,
                     check_refused, odd_things)
from heldmarks.errors import NoTurn, TooMany
from heldmarks.groups import group_of, house_of
from heldmarks.turns import then

KNOWN = [(SYM3, 6), (SYM4, 24), (ALT4, 12), (ALT5, 60), (SQUARE, 8), (FOUR, 4), (SYM4_AND_TWO, 48), (SEVEN, 42)]


def plainly_closed(many, turns):
    """The least group, by putting any two together until nothing comes."""
    found = {tuple(range(many))} | set(turns)
    while True:
        grown = found | {tuple(b[k] for k in a) for a in found for b in found}
        if grown == found:
            return tuple(sorted(found))
        found = grown


class TestGroupOf(unittest.TestCase):
    def test_an_empty_list(self):
        for many in range(1, 8):
            self.assertEqual(group_of(many, []), (tuple(range(many)),))

    def test_groups_that_are_known(self):
        for turns, many in KNOWN:
            group = group_of(len(turns[0]), turns)
            self.assertIsInstance(group, tuple)
            self.assertEqual(len(group), many)
            self.assertEqual(group, plainly_closed(len(turns[0]), turns))

    def test_of_any_two_turns_of_four_things(self):
        for one, other in itertools.combinations(all_turns(4), 2):
            self.assertEqual(group_of(4, [one, other]), plainly_closed(4, [one, other]))

    def test_it_rises_and_begins_with_the_stay(self):
        for turns, _ in KNOWN:
            group = group_of(len(turns[0]), turns)
            self.assertEqual(list(group), sorted(set(group)))
            self.assertEqual(group[0], tuple(range(len(turns[0]))))

    def test_told_twice_and_in_any_order(self):
        for turns, _ in KNOWN:
            many = len(turns[0])
            group = group_of(many, turns)
            self.assertEqual(group_of(many, turns[::-1]), group)
            self.assertEqual(group_of(many, turns + turns), group)
            self.assertEqual(group_of(many, [tuple(range(many))] + turns), group)
            self.assertEqual(group_of(many, list(group)), group)
            self.assertEqual(group_of(many, list(group[::-1])), group)

    def test_the_stay_alone(self):
        self.assertEqual(group_of(3, [(0, 1, 2)]), ((0, 1, 2),))
        self.assertEqual(group_of(1, [(0,), (0,)]), ((0,),))

    def test_sixty_turns_and_more(self):
        self.assertEqual(len(group_of(5, ALT5)), 60)
        self.assertEqual(len(group_of(7, [turn + (5, 6) for turn in ALT5])), 60)
        check_refused(self, TooMany, group_of, 5, SYM5)
        check_refused(self, TooMany, group_of, 5, ALT5 + [(1, 0, 2, 3, 4)])
        # Seventy-two turns: all of three things beside the even ones of four.
        check_refused(self, TooMany, group_of, 7, [(1, 2, 0, 3, 4, 5, 6), (1, 0, 3, 2, 4, 5, 6),
                                                   (0, 1, 2, 3, 5, 6, 4), (0, 1, 2, 3, 5, 4, 6)])
        check_refused(self, TooMany, group_of, 7, all_turns(7))
        check_refused(self, TooMany, group_of, 7, [(1, 2, 3, 4, 5, 6, 0), (1, 0, 2, 3, 4, 5, 6)])

    def test_sixty_one_turns_told(self):
        check_refused(self, TooMany, group_of, 5, all_turns(5)[:61])

    def test_not_one_to_seven_things(self):
        for many in [0, 8, -1, 60, 10 ** 29] + odd_things():
            for turns in [[], [(0,)], ["a"], [(0, 1), None], [tuple(range(8))]]:
                check_refused(self, NoTurn, group_of, many, turns, at=-1)

    def test_what_is_no_turn_of_so_many_things(self):
        wrong = odd_things() + [(0, 1), (0, 1, 2, 3), (0, 1, 1), (0, 1, 3), (0, True, 2), [0, 1, 2], "012", 0]
        for odd in wrong:
            check_refused(self, NoTurn, group_of, 3, [odd], at=0)
            check_refused(self, NoTurn, group_of, 3, [(1, 0, 2), odd], at=1)
            check_refused(self, NoTurn, group_of, 3, [(1, 0, 2), (1, 0, 2), odd, (9,), odd], at=2)

    def test_no_turn_goes_ahead_of_too_many(self):
        check_refused(self, NoTurn, group_of, 5, SYM5 + [None], at=2)
        check_refused(self, NoTurn, group_of, 5, all_turns(5) + [(0, 1, 2, 3)], at=120)
        check_refused(self, NoTurn, group_of, 5, SYM5 + [[0, 1, 2, 3, 4]] + SYM5, at=2)

    def test_nothing_given_is_changed(self):
        check_own(self, group_of, 4, [(1, 2, 3, 0), (0, 3, 2, 1), (1, 2, 3, 0)])


class TestHouseOf(unittest.TestCase):
    def test_the_one_then_the_other_of_each_two(self):
        for turns, many in KNOWN:
            group = group_of(len(turns[0]), turns)
            house = house_of(group)
            self.assertIsInstance(house, list)
            self.assertEqual(len(house), many)
            for a in range(many):
                self.assertIsInstance(house[a], list)
                self.assertEqual(len(house[a]), many)
                for b in range(many):
                    self.assertEqual(group[house[a][b]], then(group[a], group[b]))

    def test_houses_that_are_known(self):
        self.assertEqual(house_of(((0, 1, 2),)), [[0]])
        self.assertEqual(house_of(((0, 1), (1, 0))), [[0, 1], [1, 0]])
        self.assertEqual(house_of(group_of(3, SYM3)), [
            [0, 1, 2, 3, 4, 5], [1, 0, 3, 2, 5, 4], [2, 4, 0, 5, 1, 3],
            [3, 5, 1, 4, 0, 2], [4, 2, 5, 0, 3, 1], [5, 3, 4, 1, 2, 0]])

    def test_the_lists_are_the_askers_own(self):
        check_own(self, house_of, group_of(4, SQUARE))
        check_own(self, house_of, ((0,),))


if __name__ == "__main__":
    unittest.main()
