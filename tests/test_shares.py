"""[8]: the shares of a part."""

import unittest

from helpers import ALT5, SYM3, check_own, cyclic, house_by, small_houses, twos
from plain import plain_shares
from heldmarks.kinds import all_parts
from heldmarks.parts import part_of
from heldmarks.shares import shares


def houses_and_parts():
    for house in small_houses():
        for part in all_parts(house):
            yield house, part


class TestShares(unittest.TestCase):
    def test_least_numbers_rising(self):
        for house, part in houses_and_parts():
            least, _ = shares(house, part)
            self.assertEqual(least, [share[0] for share in plain_shares(house, part)])

    def test_for_each_number_its_shares_place(self):
        for house, part in houses_and_parts():
            _, places = shares(house, part)
            self.assertEqual(len(places), len(house))
            for at, share in enumerate(plain_shares(house, part)):
                for number in share:
                    self.assertEqual(places[number], at)

    def test_each_number_is_in_just_one_share(self):
        for house, part in houses_and_parts():
            least, places = shares(house, part)
            self.assertEqual(len(least) * len(part), len(house))
            for at in range(len(least)):
                self.assertEqual(places.count(at), len(part))

    def test_a_number_leads_a_share_to_a_share(self):
        for house, part in houses_and_parts():
            _, places = shares(house, part)
            for number in range(len(house)):
                goals = [{places[house[g][number]] for g in range(len(house)) if places[g] == at}
                         for at in range(max(places) + 1)]
                self.assertTrue(all(len(goal) == 1 for goal in goals))
                self.assertEqual(len(set.union(*goals)), len(goals))

    def test_those_that_are_known(self):
        self.assertEqual(shares([[0]], (0,)), ([0], [0]))
        self.assertEqual(shares(cyclic(6), (0, 3)), ([0, 1, 2], [0, 1, 2, 0, 1, 2]))
        self.assertEqual(shares(cyclic(6), (0, 2, 4)), ([0, 1], [0, 1, 0, 1, 0, 1]))
        self.assertEqual(shares(twos(4), (0, 2)), ([0, 1], [0, 1, 0, 1]))
        # In (h then g) the part's number goes first: the other way round 3 and 4 would change places.
        self.assertEqual(shares(house_by(SYM3), (0, 1)), ([0, 2, 4], [0, 0, 1, 1, 2, 2]))
        self.assertEqual(shares(house_by(SYM3), (0, 2)), ([0, 1, 3], [0, 1, 0, 2, 1, 2]))

    def test_the_least_part_and_the_whole(self):
        house = house_by(ALT5)
        self.assertEqual(shares(house, (0,)), (list(range(60)), list(range(60))))
        self.assertEqual(shares(house, tuple(range(60))), ([0], [0] * 60))

    def test_it_is_a_tuple_of_two_lists(self):
        for house, part in houses_and_parts():
            told = shares(house, part)
            self.assertIsInstance(told, tuple)
            self.assertEqual([found.__class__ for found in told], [list, list])

    def test_the_lists_are_the_askers_own(self):
        check_own(self, shares, house_by(SYM3), (0, 1))
        check_own(self, shares, house_by(SYM3), (0,))
        check_own(self, shares, cyclic(1), (0,))

    def test_a_house_that_is_changed_in_place(self):
        house = cyclic(4)
        self.assertEqual(shares(house, part_of(house, [2])), ([0, 1], [0, 1, 0, 1]))
        # Numbered anew, so that 1 is the one of length two.
        house[:] = [[0, 1, 2, 3], [1, 0, 3, 2], [2, 3, 1, 0], [3, 2, 0, 1]]
        self.assertEqual(shares(house, part_of(house, [1])), ([0, 2], [0, 0, 1, 1]))


if __name__ == "__main__":
    unittest.main()
