"""[12] and [13]: the paper that is told of a house."""

import unittest

from helpers import ALT5, SQUARE, SYM3, SYM4, check_own, cyclic, house_by, large_houses, small_houses, twos
from plain import plain_part, plain_shares, plainly_led, share_led
from heldmarks.kinds import kinds_of
from heldmarks.looks import lets_by
from heldmarks.marks import table_of
from heldmarks.papers import paper_of

HOUSES = small_houses() + large_houses()


class TestPaperOf(unittest.TestCase):
    def test_it_is_a_tuple_of_four_lists(self):
        for house in HOUSES:
            told = paper_of(house)
            self.assertIsInstance(told, tuple)
            self.assertEqual([entry.__class__ for entry in told], [list] * 4)

    def test_the_parts_are_the_kinds_in_their_order(self):
        for house in HOUSES:
            self.assertEqual(paper_of(house)[0], kinds_of(house))

    def test_grown_leads_to_the_parts(self):
        for house in HOUSES:
            parts, grown, _, _ = paper_of(house)
            self.assertEqual([len(row) for row in grown], [len(house)] * len(parts))
            for part, row in zip(parts, grown):
                # The large ones are looked at in some places only, which are others for each part.
                step = 1 + len(house) // 25
                for number in range(len(part) % step, len(house), step):
                    self.assertIsInstance(row[number], tuple)
                    k, t = row[number]
                    self.assertIn(k, range(len(parts)))
                    self.assertIn(t, range(len(house)))
                    self.assertEqual(plainly_led(house, plain_part(house, part + (number,)), t), parts[k])

    def test_moved_has_movers_and_none(self):
        for house in HOUSES:
            parts, _, moved, _ = paper_of(house)
            self.assertEqual([len(row) for row in moved], [len(parts)] * len(parts))
            for i, part in enumerate(parts):
                found = plain_shares(house, part)
                step = 1 + len(parts) // 10
                for j in range(i % step, len(parts), step):
                    self.assertEqual(len(moved[i][j]), len(found))
                    for share, mover in zip(found, moved[i][j]):
                        if mover is None:
                            self.assertTrue(all(share_led(house, share, number) == share for number in parts[j]))
                        else:
                            self.assertIn(mover, parts[j])
                            self.assertNotEqual(share_led(house, share, mover), share)

    def test_the_table_counts_none_and_is_the_table(self):
        for house in HOUSES:
            parts, _, moved, table = paper_of(house)
            self.assertEqual(table, [[movers.count(None) for movers in row] for row in moved])
            self.assertEqual(table, table_of(house, parts))

    def test_it_is_let_by(self):
        for house in HOUSES:
            self.assertIs(lets_by(house, paper_of(house)), True)

    def test_of_one_number(self):
        self.assertEqual(paper_of([[0]]), ([(0,)], [[(0, 0)]], [[[None]]], [[1]]))

    def test_of_two_numbers(self):
        parts, grown, moved, table = paper_of(cyclic(2))
        self.assertEqual(parts, [(0,), (0, 1)])
        self.assertEqual([[k for k, _ in row] for row in grown], [[0, 1], [1, 1]])
        self.assertEqual(moved, [[[None, None], [1, 1]], [[None], [None]]])
        self.assertEqual(table, [[2, 0], [1, 1]])

    def test_of_six_numbers(self):
        parts, grown, moved, table = paper_of(house_by(SYM3))
        self.assertEqual(parts, [(0,), (0, 1), (0, 3, 4), (0, 1, 2, 3, 4, 5)])
        self.assertEqual([[k for k, _ in row] for row in grown],
                         [[0, 1, 1, 2, 2, 1], [1, 1, 3, 3, 3, 3], [2, 3, 3, 2, 2, 3], [3] * 6])
        self.assertEqual(moved[1][1], [None, 1, 1])
        self.assertEqual(table, [[6, 0, 0, 0], [3, 1, 0, 0], [2, 0, 2, 0], [1, 1, 1, 1]])

    def test_the_lists_are_the_askers_own(self):
        for house in [[[0]], house_by(SYM3), house_by(SQUARE), house_by(SYM4), twos(8), house_by(ALT5)]:
            check_own(self, paper_of, house)

    def test_a_house_that_is_changed_in_place(self):
        house = cyclic(6)
        self.assertEqual(paper_of(house)[0][1], (0, 3))
        house[:] = house_by(SYM3)
        self.assertEqual(paper_of(house)[0][1], (0, 1))
        self.assertIs(lets_by(house, paper_of(house)), True)


if __name__ == "__main__":
    unittest.main()
