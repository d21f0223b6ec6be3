"""[31]: texts of turns and books, read; and what is no such text."""

import itertools
import unittest

from helpers import ALT5, SQUARE, SYM3, SYM5, all_turns, check_own, check_refused, lists_in, odd_things
from plain import plain_book, plain_turn_text, turns_by_text
from heldmarks.errors import NoText, TooMany
from heldmarks.groups import house_of
from heldmarks.kinds import kinds_of
from heldmarks.reader import read_book, read_turn
from heldmarks.texts import show_book, show_turn

SIGNS = [chr(code) for code in range(32, 127)] + ["\t", "\n", "\r"]

BOOK = "things 3\nturn (0 1)\nturn (0 1 2)\nset a 1 0 20 3\nset bc 0 0 0 10"


KINDS_MANY = {}


def kinds_many(group):
    """How many kinds a group has; the same groups come again and again."""
    key = tuple(group)
    if key not in KINDS_MANY:
        KINDS_MANY[key] = len(kinds_of(house_of(key)))
    return KINDS_MANY[key]


def read(text):
    """What read_book tells of the text, refusals as plain_book tells them."""
    try:
        return read_book(text)
    except NoText as refused:
        return "NoText", refused.line
    except TooMany:
        return "TooMany"


def one_sign_otherwise(text, signs):
    """The texts with one sign another one, one left out, or one more."""
    for at in range(len(text) + 1):
        yield text[:at] + text[at + 1:]
        for sign in signs:
            yield text[:at] + sign + text[at + 1:]
            yield text[:at] + sign + text[at:]


class TestReadTurn(unittest.TestCase):
    def test_all_turns_and_back(self):
        for many in range(1, 8):
            for turn in all_turns(many)[:: 1 if many < 7 else 7]:
                told = read_turn(many, plain_turn_text(turn))
                self.assertIsInstance(told, tuple)
                self.assertEqual(told, turn)

    def test_one_sign_otherwise(self):
        for many, text in [(3, "(0 2 1)"), (4, "(0 1) (2 3)"), (5, "()"), (5, "(0 4) (1 3 2)"), (7, "(0 6 5 4 3 2 1)"),
                           (1, "()"), (7, "(0 1) (2 3) (4 5)")]:
            for other in one_sign_otherwise(text, SIGNS):
                if other in turns_by_text(many):
                    self.assertEqual(read_turn(many, other), turns_by_text(many)[other])
                else:
                    check_refused(self, NoText, read_turn, many, other, line=0)

    def test_all_short_texts(self):
        for many in (1, 2, 3):
            right = turns_by_text(many)
            for length in range(6):
                for signs in itertools.product("() 012", repeat=length):
                    text = "".join(signs)
                    if text in right:
                        self.assertEqual(read_turn(many, text), right[text])
                    else:
                        check_refused(self, NoText, read_turn, many, text, line=0)

    def test_those_that_are_wrong(self):
        for text in ["", " ", "0", "(0)", "(0 1) ()", "() (0 1)", "() ()", "(1 0)", "(0 1)(2 3)", "(2 3) (0 1)", "(0 1 0)",
                     "(0 1) (1 2)", "(0 4)", "(0  1)", "( 0 1)", "(0 1 )", " (0 1)", "(0 1) ", "(0 1)  (2 3)", "(0\t1)",
                     "(0 1)\n", "\n(0 1)", "(00 1)", "(0 01)", "(0 -1)", "(+0 1)", "(0,1)", "[0 1]", "(0 1", "0 1)",
                     "((0 1))", "(0 1) (2)", "(0) (1 2)", "(a b)", "(0 1.0)", "(0 1) (2 3) (0 1)", "(", ")", ")(",
                     "(0 " + "1" * 30 + ")", "(0 " + "1" * 31 + ")", "stay", "turn (0 1)", "(0 1)\t(2 3)", "(0_1)"]:
            check_refused(self, NoText, read_turn, 4, text, line=0)

    def test_of_other_many_things(self):
        self.assertEqual(read_turn(2, "(0 1)"), (1, 0))
        self.assertEqual(read_turn(7, "(0 1)"), (1, 0, 2, 3, 4, 5, 6))
        check_refused(self, NoText, read_turn, 1, "(0 1)", line=0)
        check_refused(self, NoText, read_turn, 6, "(0 6)", line=0)

    def test_what_is_no_text(self):
        for odd in odd_things() + [b"()", ["()"], ("()",)]:
            check_refused(self, NoText, read_turn, 3, odd, line=0)

    def test_not_one_to_seven_things(self):
        for many in [0, 8, -1, 10 ** 29]:
            for text in ["()", "(0 1)", ""]:
                check_refused(self, NoText, read_turn, many, text, line=0)


class TestReadBook(unittest.TestCase):
    def test_those_that_are_known(self):
        self.assertEqual(read_book("things 1"), (1, [], []))
        self.assertEqual(read_book("things 7\nset a 5"), (7, [], [("a", [5])]))
        self.assertEqual(read_book(BOOK), (3, [(1, 0, 2), (1, 2, 0)], [("a", [1, 0, 20, 3]), ("bc", [0, 0, 0, 10])]))
        self.assertEqual(read_book("things 2\nturn ()\nturn ()\nturn (0 1)\nset zyxwvuts 1 2"),
                         (2, [(0, 1), (0, 1), (1, 0)], [("zyxwvuts", [1, 2])]))

    def test_the_kinds_of_what_is_told(self):
        many, turns, sets = read_book(BOOK)
        self.assertIsInstance(read_book(BOOK), tuple)
        self.assertIsInstance(turns, list)
        self.assertIsInstance(turns[0], tuple)
        self.assertIsInstance(sets, list)
        self.assertIsInstance(sets[0], tuple)
        self.assertIsInstance(sets[0][1], list)

    def test_shown_it_is_the_very_text(self):
        for text in ["things 1", BOOK, "things 7\nset a 5", "things 4\nturn (0 1) (2 3)\nturn (0 1) (2 3)\nset x 1 0",
                     "things 5\n" + "\n".join("turn " + show_turn(turn) for turn in ALT5) + "\nset q 1 2 3 4 5 6 7 8 9",
                     "things 3\nset a " + "9" * 30]:
            self.assertEqual(show_book(*read_book(text)), text)

    def test_one_sign_otherwise_at_each_place(self):
        for text in [BOOK, "things 1\nset a 0", "things 4\nturn (0 1) (2 3)\nturn ()\nset abcdefgh 10 0",
                     "things 2\nturn (0 1)"]:
            self.assertEqual(read(text), plain_book(text, kinds_many))
            self.assertIsInstance(read(text)[0], int)
            signs = SIGNS if len(text) < 50 else " 012739()abtx\t\n-+"
            for other in one_sign_otherwise(text, signs):
                self.assertEqual(read(other), plain_book(other, kinds_many), repr(other))

    def test_one_line_otherwise(self):
        lines = BOOK.split("\n")
        others = lines + ["", " ", "turn", "turn ", "turn (0 2)", "turn (0 3)", "turn ()", "turn  ()", " turn ()",
                          "turn\t()", "turns ()", "set", "set ", "set c", "set c 1 2 3", "set c 1 2 3 4 5",
                          "set c 1 2 3 4 ", "set c  1 2 3 4", "set  1 2 3 4", "set c 1 2 3 04", "set c 1 2 3 -4",
                          "set c 1 2 3 " + "9" * 30, "set c 1 2 3 " + "9" * 31, "set c 1 2 3 +4", "Set c 1 2 3 4",
                          "set abcdefghi 1 2 3 4", "set C 1 2 3 4", "set c1 1 2 3 4", "set c_ 1 2 3 4", "set a 1 2 3 4",
                          "things 3", "things 4", "set c 1 2 3 4", "set c 1\t2 3 4", "set c 1 2 3 x", "#", "set c 0 0 0 00"]
        for at in range(len(lines) + 1):
            for other in others:
                for changed in [lines[:at] + [other] + lines[at:], lines[:at] + [other] + lines[at + 1:]]:
                    text = "\n".join(changed)
                    self.assertEqual(read(text), plain_book(text, kinds_many), repr(text))

    def test_lines_in_another_order(self):
        for lines in itertools.permutations(BOOK.split("\n")):
            text = "\n".join(lines)
            self.assertEqual(read(text), plain_book(text, kinds_many), repr(text))

    def test_the_first_line(self):
        for text in ["", " ", "\n", "things", "things ", "things 0", "things 8", "things 10", "things 03", "things 3 ",
                     " things 3", "things  3", "things\t3", "things 3 3", "things -3", "things three", "thing 3",
                     "Things 3", "turn ()", "set a 1", "\nthings 3", "things 3.0", "3", "things 1" + "0" * 29,
                     "things 1" + "0" * 30, "things 3\r\nturn ()"]:
            check_refused(self, NoText, read_book, text, line=0)

    def test_the_line_that_is_told(self):
        for text, line in [("things 3\n", 1), (BOOK + "\n", 5), ("things 3\nturn", 1), ("things 3\nturn ()\nturn x", 2),
                           ("things 3\nset a 1\nset a 1", 2), ("things 3\nset a 1\nturn ()", 2),
                           ("things 2\nturn (0 1)\nset a 1", 2), ("things 2\nturn (0 1)\nset a 1 2 3", 2),
                           ("things 2\nturn (0 1)\nset a 1 2\nset b 1 2\nset c 1 2\nset b 1 2", 5),
                           ("things 2\nset a 1\n\nset b 1", 2), ("things 2\nset aaaaaaaaa 1", 1),
                           ("things 2\nset a " + "1" * 31, 1), ("things 2\nset a 01", 1), ("things 2\nturn (0 1) ", 1),
                           ("things 2\nturn (1 0)", 1), ("things 2\nturn (0 2)", 1), ("things 2\nset a", 1)]:
            check_refused(self, NoText, read_book, text, line=line)

    def test_the_turns_lines_go_ahead_of_too_many(self):
        many = "things 5\n" + "\n".join("turn " + show_turn(turn) for turn in SYM5)
        check_refused(self, TooMany, read_book, many)
        check_refused(self, NoText, read_book, many + "\nturn", line=3)
        check_refused(self, NoText, read_book, many + "\nturn (0 5)", line=3)
        check_refused(self, NoText, read_book, many + "\nturn ()\nturn  ()", line=4)
        check_refused(self, NoText, read_book, "things 5\nturn (1 0)" + many[8:], line=1)
        check_refused(self, NoText, read_book, "things 4" + many[8:], line=2)
        check_refused(self, NoText, read_book, "things 9" + many[8:], line=0)

    def test_too_many_goes_ahead_of_the_lines_behind(self):
        many = "things 5\n" + "\n".join("turn " + show_turn(turn) for turn in SYM5)
        for behind in ["", "set", "set a 1", "things 5", " turn ()", "turns ()", "set a x\nturn (9)", "x", "\tturn ()",
                       "turn\t()", "set a 1\nset a 1"]:
            check_refused(self, TooMany, read_book, many + "\n" + behind)
        sixty = "things 5\n" + "\n".join("turn " + show_turn(turn) for turn in ALT5)
        check_refused(self, NoText, read_book, sixty + "\nset a 1", line=3)
        self.assertEqual(read_book(sixty), (5, ALT5, []))

    def test_what_is_no_text(self):
        for odd in odd_things() + [b"things 1", ["things 1"], ("things 1",), 3, bytearray(b"things 1")]:
            if odd != "":
                check_refused(self, NoText, read_book, odd, line=0)

    def test_numbers_of_thirty_figures_and_more(self):
        self.assertEqual(read_book("things 1\nset a " + "9" * 30)[2], [("a", [10 ** 30 - 1])])
        self.assertEqual(read_book("things 1\nset a 1" + "0" * 29)[2], [("a", [10 ** 29])])
        check_refused(self, NoText, read_book, "things 1\nset a 1" + "0" * 30, line=1)
        check_refused(self, NoText, read_book, "things 1\nset a " + "0" * 30, line=1)
        check_refused(self, NoText, read_book, show_book(1, [], [("a", [10 ** 30])]), line=1)

    def test_the_lists_are_the_askers_own(self):
        check_own(self, read_book, BOOK)
        told = read_book("things 4\nturn (0 1)\nset a 0 0\nset b 0 0")
        held = lists_in(told)
        self.assertEqual(len({id(found) for found in held}), 4)

    def test_a_book_with_many_lines(self):
        names = ["".join(letters) for letters in itertools.product("abcdefgh", repeat=4)][:3000]
        sets = [(name, [at, 1, 2, 3, 4, 5, 6, 10 ** 29 + at]) for at, name in enumerate(names)]
        text = show_book(4, SQUARE * 40, sets)
        self.assertEqual(read_book(text), (4, SQUARE * 40, sets))
        self.assertEqual(read(text + "\nset " + names[5] + " 0 0 0 0 0 0 0 0"), ("NoText", 3081))

    def test_turns_that_are_told_twice(self):
        self.assertEqual(read_book("things 3\nturn ()\nturn (0 1)\nturn (0 1)")[1], [(0, 1, 2), SYM3[0], SYM3[0]])


if __name__ == "__main__":
    unittest.main()
