"""[4] and [5]: turns, their rings, and what is none."""

import unittest

from helpers import all_turns, check_own, check_refused, odd_things
from heldmarks.errors import NoTurn
from heldmarks.turns import contrary, is_turn, length, rings, then, turn_of

SOME_OF_SEVEN = [(1, 2, 0, 4, 3, 6, 5), (6, 5, 4, 3, 2, 1, 0), (1, 2, 3, 4, 5, 6, 0), (0, 1, 2, 3, 4, 5, 6)]


class TestIsTurn(unittest.TestCase):
    def test_all_turns_of_one_to_six_things(self):
        for many in range(1, 7):
            for turn in all_turns(many):
                self.assertIs(is_turn(turn), True)

    def test_turns_of_seven_things(self):
        for turn in SOME_OF_SEVEN:
            self.assertIs(is_turn(turn), True)

    def test_no_places_and_eight_places(self):
        self.assertIs(is_turn(()), False)
        self.assertIs(is_turn(tuple(range(8))), False)
        self.assertIs(is_turn(tuple(range(1000))), False)

    def test_what_is_no_tuple(self):
        for thing in odd_things() + ["01", [0], [0, 1], [1, 0, 2], {0: 0}, range(2), b"\x00\x01", 0, 1]:
            self.assertIs(is_turn(thing), False)

    def test_a_tuple_with_what_is_no_number(self):
        for odd in odd_things():
            self.assertIs(is_turn((odd,)), False)
            self.assertIs(is_turn((0, odd)), False)
            self.assertIs(is_turn((odd, 0, 2)), False)

    def test_a_truth_among_the_numbers(self):
        self.assertIs(is_turn((False, 1)), False)
        self.assertIs(is_turn((0, True)), False)
        self.assertIs(is_turn((True, False)), False)
        self.assertIs(is_turn((False,)), False)

    def test_a_number_twice_below_or_beyond(self):
        for thing in [(0, 0), (1, 1), (0, 1, 1), (-1, 0), (0, -1), (1, 2), (0, 2), (1,), (-1,), (0, 1, 3)]:
            self.assertIs(is_turn(thing), False)


class TestThen(unittest.TestCase):
    def test_where_each_thing_is_led(self):
        for many in range(1, 5):
            for one in all_turns(many):
                for other in all_turns(many):
                    told = then(one, other)
                    self.assertIsInstance(told, tuple)
                    self.assertEqual(list(told), [other[one[k]] for k in range(many)])

    def test_the_first_goes_first(self):
        self.assertEqual(then((1, 2, 0), (1, 0, 2)), (0, 2, 1))
        self.assertEqual(then((1, 0, 2), (1, 2, 0)), (2, 1, 0))

    def test_unlike_many_things(self):
        for one in range(1, 8):
            for other in range(1, 8):
                if one != other:
                    check_refused(self, NoTurn, then, tuple(range(one)), tuple(range(other)), at=1)


class TestContraryAndLength(unittest.TestCase):
    def test_contrary_ahead_and_behind(self):
        for many in range(1, 6):
            stay = tuple(range(many))
            for turn in all_turns(many):
                back = contrary(turn)
                self.assertIs(is_turn(back), True)
                self.assertEqual(then(turn, back), stay)
                self.assertEqual(then(back, turn), stay)

    def test_contrary_of_seven(self):
        self.assertEqual(contrary((1, 2, 3, 4, 5, 6, 0)), (6, 0, 1, 2, 3, 4, 5))

    def test_length_of_the_stay(self):
        for many in range(1, 8):
            self.assertEqual(length(tuple(range(many))), 1)

    def test_lengths_that_are_known(self):
        self.assertEqual(length((1, 0)), 2)
        self.assertEqual(length((1, 2, 0)), 3)
        self.assertEqual(length((1, 2, 0, 4, 3)), 6)
        self.assertEqual(length((1, 2, 0, 4, 3, 6, 5)), 6)
        self.assertEqual(length((1, 2, 3, 0, 5, 6, 4)), 12)
        self.assertEqual(length((1, 2, 3, 4, 5, 6, 0)), 7)
        self.assertEqual(length((1, 2, 3, 4, 0, 6, 5)), 10)

    def test_length_is_the_least(self):
        for turn in all_turns(5):
            stay = tuple(range(5))
            done, times = turn, 1
            while done != stay:
                done = tuple(turn[k] for k in done)
                times += 1
            self.assertEqual(length(turn), times)


class TestRings(unittest.TestCase):
    def test_rings_that_are_known(self):
        self.assertEqual(rings((0,)), [[0]])
        self.assertEqual(rings((0, 1, 2)), [[0], [1], [2]])
        self.assertEqual(rings((2, 0, 1)), [[0, 2, 1]])
        self.assertEqual(rings((0, 2, 1)), [[0], [1, 2]])
        self.assertEqual(rings((3, 1, 6, 0, 5, 4, 2)), [[0, 3], [1], [2, 6], [4, 5]])

    def test_each_begins_with_its_least_and_goes_on(self):
        for turn in all_turns(5) + SOME_OF_SEVEN:
            told = rings(turn)
            self.assertEqual(sorted(k for ring in told for k in ring), list(range(len(turn))))
            self.assertEqual([ring[0] for ring in told], sorted(ring[0] for ring in told))
            for ring in told:
                self.assertEqual(ring[0], min(ring))
                self.assertEqual([turn[k] for k in ring], ring[1:] + ring[:1])

    def test_the_lists_are_the_askers_own(self):
        check_own(self, rings, (1, 0, 2, 4, 3))
        check_own(self, rings, (0, 1, 2, 3, 4, 5, 6))


class TestTurnOf(unittest.TestCase):
    def test_rings_give_the_turn(self):
        for many in range(1, 6):
            for turn in all_turns(many):
                told = turn_of(many, rings(turn))
                self.assertIsInstance(told, tuple)
                self.assertEqual(told, turn)
        for turn in SOME_OF_SEVEN:
            self.assertEqual(turn_of(7, rings(turn)), turn)

    def test_things_in_no_list_stay(self):
        self.assertEqual(turn_of(1, []), (0,))
        self.assertEqual(turn_of(4, []), (0, 1, 2, 3))
        self.assertEqual(turn_of(5, [[1, 3]]), (0, 3, 2, 1, 4))
        self.assertEqual(turn_of(3, [[1]]), (0, 1, 2))

    def test_in_any_order_from_any_thing(self):
        self.assertEqual(turn_of(7, [[6, 2], [5, 0, 4]]), (4, 1, 6, 3, 5, 0, 2))
        self.assertEqual(turn_of(3, [[2, 1, 0]]), turn_of(3, [[0, 2, 1]]))

    def test_not_one_to_seven_things(self):
        for many in [0, 8, -1, 100, -(10 ** 29), 10 ** 29]:
            for lists in [[], [[0]], [[]], [[0, 0]], [["a"]], [[0], []]]:
                check_refused(self, NoTurn, turn_of, many, lists, at=-1)

    def test_what_is_no_number_of_things_at_all(self):
        for many in odd_things():
            check_refused(self, NoTurn, turn_of, many, [], at=-1)

    def test_an_empty_list(self):
        check_refused(self, NoTurn, turn_of, 3, [[]], at=0)
        check_refused(self, NoTurn, turn_of, 3, [[0], [1, 2], []], at=2)
        check_refused(self, NoTurn, turn_of, 3, [[0], [], [7]], at=1)

    def test_what_is_no_number_of_a_thing(self):
        for odd in odd_things() + [3, 4, 7]:
            check_refused(self, NoTurn, turn_of, 3, [[odd]], at=0)
            check_refused(self, NoTurn, turn_of, 3, [[0, odd]], at=0)
            check_refused(self, NoTurn, turn_of, 3, [[1], [odd, 0]], at=1)
            check_refused(self, NoTurn, turn_of, 3, [[1], [2], [0, odd], []], at=2)

    def test_a_thing_that_stood_ahead(self):
        check_refused(self, NoTurn, turn_of, 3, [[0, 0]], at=0)
        check_refused(self, NoTurn, turn_of, 3, [[0, 1, 0]], at=0)
        check_refused(self, NoTurn, turn_of, 3, [[0], [0]], at=1)
        check_refused(self, NoTurn, turn_of, 7, [[0, 1], [2, 3], [4, 1]], at=2)
        check_refused(self, NoTurn, turn_of, 7, [[0, 1], [2, 3, 2], [4, 1]], at=1)

    def test_one_thing(self):
        self.assertEqual(turn_of(1, [[0]]), (0,))
        check_refused(self, NoTurn, turn_of, 1, [[1]], at=0)
        check_refused(self, NoTurn, turn_of, 1, [[0], [0]], at=1)

    def test_nothing_given_is_changed(self):
        check_own(self, turn_of, 5, [[4, 0], [1, 2]])


if __name__ == "__main__":
    unittest.main()
