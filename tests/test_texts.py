"""[31]: turns and books as texts."""

import unittest

from helpers import (ALT5, SQUARE, SYM3, SYM4_AND_TWO, all_turns, check_own)
from plain import plain_turn_text
from heldmarks.reader import read_book, read_turn
from heldmarks.texts import show_book, show_turn


class TestShowTurn(unittest.TestCase):
    def test_all_turns_of_up_to_six_things(self):
        for many in range(1, 7):
            for turn in all_turns(many):
                told = show_turn(turn)
                self.assertEqual(told, plain_turn_text(turn))
                self.assertEqual(read_turn(many, told), turn)

    def test_some_turns_of_seven_things(self):
        for turn in all_turns(7)[::11]:
            self.assertEqual(show_turn(turn), plain_turn_text(turn))

    def test_those_that_are_known(self):
        known = [((0,), "()"), ((0, 1, 2), "()"), ((1, 0), "(0 1)"), ((2, 0, 1), "(0 2 1)"), ((1, 2, 0), "(0 1 2)"),
                 ((0, 2, 1), "(1 2)"), ((1, 0, 3, 2), "(0 1) (2 3)"), ((3, 2, 1, 0), "(0 3) (1 2)"),
                 ((0, 1, 2, 3, 4, 6, 5), "(5 6)"), ((6, 0, 1, 2, 3, 4, 5), "(0 6 5 4 3 2 1)"),
                 ((2, 4, 0, 3, 6, 5, 1), "(0 2) (1 4 6)")]
        for turn, text in known:
            self.assertEqual(show_turn(turn), text)


class TestShowBook(unittest.TestCase):
    def test_those_that_are_known(self):
        self.assertEqual(show_book(1, [], []), "things 1")
        self.assertEqual(show_book(7, [], [("a", [0])]), "things 7\nset a 0")
        self.assertEqual(show_book(2, [(1, 0), (0, 1), (1, 0)], []), "things 2\nturn (0 1)\nturn ()\nturn (0 1)")
        self.assertEqual(show_book(3, SYM3, [("zz", [1, 0, 20, 3]), ("abcdefgh", [0, 0, 0, 0])]),
                         "things 3\nturn (0 1)\nturn (0 1 2)\nset zz 1 0 20 3\nset abcdefgh 0 0 0 0")

    def test_and_back(self):
        for many, turns in [(1, []), (3, SYM3), (4, SQUARE + SQUARE), (5, ALT5), (6, SYM4_AND_TWO)]:
            kinds = {0: 1, 3: 4, 4: 8, 5: 9, 6: 33}[many if turns else 0]
            sets = [("b", list(range(kinds))), ("a", [10 ** 30 - 1] * kinds), ("c", [0] * kinds)]
            text = show_book(many, turns, sets)
            self.assertEqual(read_book(text), (many, turns, sets))

    def test_counts_of_many_figures_are_shown_whole(self):
        for count in [10 ** 30, 10 ** 60, 10 ** 61 - 1]:
            self.assertEqual(show_book(1, [], [("a", [count])]), "things 1\nset a " + str(count))

    def test_no_line_end_behind_the_last_line(self):
        self.assertFalse(show_book(3, SYM3, [("a", [1, 2, 3, 4])]).endswith("\n"))

    def test_nothing_given_is_changed(self):
        check_own(self, show_book, 3, [(1, 0, 2), (1, 2, 0)], [("a", [1, 2, 3, 4]), ("b", [1, 2, 3, 4])])
        check_own(self, show_turn, (1, 0, 2))

    def test_what_is_changed_in_place(self):
        turns, counts = [(1, 0)], [1, 2]
        sets = [("a", counts)]
        self.assertEqual(show_book(2, turns, sets), "things 2\nturn (0 1)\nset a 1 2")
        counts[0] = 7
        turns.append((0, 1))
        sets.append(("b", [3, 4]))
        self.assertEqual(show_book(2, turns, sets), "things 2\nturn (0 1)\nturn ()\nset a 7 2\nset b 3 4")


if __name__ == "__main__":
    unittest.main()
