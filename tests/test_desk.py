"""[32]: the desk, row by row, its refusals, and the way back."""

import itertools
import random
import unittest

from helpers import ALT4, ALT5, SQUARE, SYM3, SYM4, SYM4_AND_TWO, SYM5, check_refused, odd_things
from heldmarks.colours import patterns, patterns_by
from heldmarks.desk import Desk
from heldmarks.errors import BelowNought, NoBack, NoName, NoNumber, NoRow, NoSet, NoText, TooMany
from heldmarks.groups import group_of, house_of
from heldmarks.grown import ways
from heldmarks.kinds import all_parts, kinds_of, many_of
from heldmarks.marks import table_of
from heldmarks.moved import set_of_counts, set_of_things
from heldmarks.pieces import counts_of, marks_of
from heldmarks.reader import read_book
from heldmarks.rests import first_uneven
from heldmarks.solving import counts_by, marks_by
from heldmarks.sums import beside, paired
from heldmarks.texts import show_book

BIG = 10 ** 30 - 1

SYM3_BOOK = "things 3\nturn (0 1)\nturn (0 1 2)\nset a 1 0 20 3\nset bc 0 2 0 10"
SYM3_TABLE = [[6, 0, 0, 0], [3, 1, 0, 0], [2, 0, 2, 0], [1, 1, 1, 1]]


def words(numbers):
    return " ".join(map(str, numbers))


class Known:
    """A group and all that the modules tell of it, to hold a desk against."""

    def __init__(self, turns, many=None):
        self.turns = turns
        self.many = many or len(turns[0])
        self.group = group_of(self.many, turns)
        self.house = house_of(self.group)
        self.kinds = kinds_of(self.house)
        self.table = table_of(self.house, self.kinds)
        self.things = set_of_things(self.group)

    def some_counts(self):
        many = len(self.kinds)
        return [[0] * many, [1] * many, list(range(many)), [BIG // (at + 1) for at in range(many)],
                [0] * (many - 1) + [2], [1] + [0] * (many - 1)]

    def book(self, sets):
        return show_book(self.many, self.turns, sets)


KNOWN = [Known(SYM3), Known(SQUARE), Known(ALT4), Known(ALT5), Known(SYM4_AND_TWO), Known([], 1), Known([], 7),
         Known([(1, 0)]), Known([(1, 2, 3, 4, 5, 6, 0)]), Known(SYM4)]


class TestMaking(unittest.TestCase):
    def test_its_book_is_the_very_text(self):
        for known in KNOWN:
            sets = list(zip(["a", "zz", "abcdefgh", "b"], known.some_counts()))
            for text in [known.book([]), known.book(sets), known.book(sets[::-1])]:
                self.assertEqual(Desk(text).say("book"), text)

    def test_turns_that_are_told_twice_stay(self):
        text = "things 3\nturn (0 1)\nturn ()\nturn (0 1)\nset a 1 2"
        self.assertEqual(Desk(text).say("book"), text)

    def test_refused_as_books_are(self):
        for text, line in [("", 0), ("things 8", 0), ("things 3\n", 1), ("things 3\nturn (0 3)", 1),
                           (SYM3_BOOK + "\nset a 1 1 1 1", 5), (SYM3_BOOK + "\nset d 1 1 1", 5), ("book", 0)]:
            check_refused(self, NoText, Desk, text, line=line)
        for odd in odd_things():
            check_refused(self, NoText, Desk, odd, line=0)
        check_refused(self, TooMany, Desk, show_book(5, SYM5, []))
        check_refused(self, TooMany, Desk, show_book(5, SYM5, []) + "\nset")

    def test_two_desks_are_two(self):
        one, other = Desk(SYM3_BOOK), Desk(SYM3_BOOK)
        one.say("drop a")
        self.assertEqual(other.say("counts a"), "1 0 20 3")
        check_refused(self, NoBack, other.say, "back")
        self.assertEqual(one.say("back"), "ok")


class TestTold(unittest.TestCase):
    def test_how_many(self):
        for known in KNOWN:
            desk = Desk(known.book([]))
            self.assertEqual(desk.say("turns"), str(len(known.group)))
            self.assertEqual(desk.say("parts"), str(len(all_parts(known.house))))
            self.assertEqual(desk.say("kinds"), str(len(known.kinds)))

    def test_kinds_and_the_table(self):
        for known in KNOWN:
            desk = Desk(known.book([]))
            for i, part in enumerate(known.kinds):
                self.assertEqual(desk.say(f"kind {i}"), f"{len(part)} {many_of(known.house, part)}")
                self.assertEqual(desk.say(f"row {i}"), words(known.table[i]))
                for j in range(0, len(known.kinds), 1 + len(known.kinds) // 8):
                    self.assertEqual(desk.say(f"mark {i} {j}"), str(known.table[i][j]))

    def test_those_that_are_known(self):
        desk = Desk(SYM3_BOOK)
        for row, answer in [("turns", "6"), ("parts", "6"), ("kinds", "4"), ("kind 1", "2 3"), ("kind 3", "6 1"),
                            ("mark 1 0", "3"), ("mark 0 1", "0"), ("row 2", "2 0 2 0"), ("counts a", "1 0 20 3"),
                            ("marks a", "49 3 43 3"), ("marks bc", "16 12 10 10"), ("patterns 2", "4"),
                            ("patterns 0", "0"), ("solve 3 1 0 0", "0 1 0 0"), ("solve 1 0 0 0", "none 0"),
                            ("solve 0 0 1 0", "none 2"), ("solve -6 0 0 0", "below 0"), ("solve 0 0 0 0", "0 0 0 0"),
                            ("solve 0 0 -1 -1", "none 0"), ("solve -1 -1 -1 -1", "below 3"), ("uneven 12 2 3 1", "none"),
                            ("uneven 1 0 0 0", "0"), ("uneven 1 1 1 0", "2"), ("ways bc a", str(3 ** 2 * 3 ** 10)),
                            ("ways a bc", str(16 * 10 ** 20 * 10 ** 3))]:
            self.assertEqual(desk.say(row), answer, row)
        self.assertEqual([desk.say(f"row {i}") for i in range(4)], [words(row) for row in SYM3_TABLE])

    def test_counts_and_marks(self):
        for known in KNOWN:
            sets = list(zip("abcdef", known.some_counts()))
            desk = Desk(known.book(sets))
            for name, counts in sets:
                self.assertEqual(desk.say(f"counts {name}"), words(counts))
                self.assertEqual(desk.say(f"marks {name}"), words(marks_by(known.table, counts)))

    def test_solve_and_uneven(self):
        for known in KNOWN:
            desk = Desk(known.book([]))
            many = len(known.kinds)
            rows = known.table[::5] + known.some_counts()[:3] + [[-BIG] * many, [BIG] * many, [-1] * many]
            rows += [[at * step % 9 - 4 for at in range(many)] for step in range(1, 12)]
            rows += [[-entry for entry in row] for row in known.table[::4]]
            for marks in rows:
                try:
                    answer = words(counts_by(known.table, marks))
                except NoSet as refused:
                    answer = f"none {refused.at}"
                except BelowNought as refused:
                    answer = f"below {refused.at}"
                self.assertEqual(desk.say(f"solve {words(marks)}"), answer)
                kind = first_uneven(known.house, known.kinds, marks)
                self.assertEqual(desk.say(f"uneven {words(marks)}"), "none" if kind is None else str(kind))

    def test_none_and_below(self):
        desk = Desk("things 4\nturn (0 1 2 3)")
        # The kinds have one, two and four numbers; the rows of the table are 4 0 0, 2 2 0 and 1 1 1.
        self.assertEqual([desk.say(f"row {i}") for i in range(3)], ["4 0 0", "2 2 0", "1 1 1"])
        for row, answer in [("solve 1 0 0", "none 0"), ("solve 4 1 0", "none 1"), ("solve 1 1 0", "none 1"),
                            ("solve -4 0 0", "below 0"), ("solve 2 -2 0", "below 1"), ("solve -7 -3 -3", "below 2"),
                            ("solve -6 -2 0", "below 1"), ("solve 0 0 -2", "below 2"), ("solve 7 3 1", "1 1 1")]:
            self.assertEqual(desk.say(row), answer, row)

    def test_patterns(self):
        for known in KNOWN:
            desk = Desk(known.book([]))
            for colours in [0, 1, 2, 3, 10, BIG]:
                self.assertEqual(desk.say(f"patterns {colours}"), str(patterns(known.things, colours)))

    def test_ways(self):
        for known in KNOWN:
            many = len(known.kinds)
            sets = [("a", [1] * many), ("b", [at % 3 for at in range(many)]), ("c", [0] * many), ("d", [BIG] * many)]
            desk = Desk(known.book(sets))
            for (one, counts), (other, others) in itertools.product(sets[:3], sets):
                if sum(counts) <= 60:
                    self.assertEqual(desk.say(f"ways {one} {other}"), str(ways(counts, marks_by(known.table, others))))
            self.assertEqual(desk.say("ways c c"), "1")
            # Far more than sixty pieces, each with but one way.
            desk.say(f"set e {words([0] * (many - 1) + [1])}")
            self.assertEqual(desk.say("ways d e"), "1")
            self.assertEqual(desk.say("ways d c"), "0")

    def test_what_is_asked_changes_nothing(self):
        desk = Desk(SYM3_BOOK)
        for row in ["book", "turns", "parts", "kinds", "kind 0", "mark 0 0", "row 0", "marks a", "counts a", "patterns 2",
                    "solve 1 2 3 4", "uneven 1 2 3 4", "ways a bc"]:
            told = desk.say(row)
            self.assertIsInstance(told, str)
            self.assertEqual(desk.say(row), told)
            self.assertEqual(desk.say("book"), SYM3_BOOK)
            check_refused(self, NoBack, desk.say, "back")


class TestDeeds(unittest.TestCase):
    def test_set(self):
        for known in KNOWN:
            desk = Desk(known.book([]))
            for counts in known.some_counts():
                self.assertEqual(desk.say(f"set new {words(counts)}"), "ok")
                self.assertEqual(desk.say("counts new"), words(counts))
                self.assertEqual(desk.say("book"), known.book([("new", counts)]))

    def test_beside_and_pair(self):
        for known in KNOWN:
            sets = list(zip("abcde", known.some_counts()))
            desk = Desk(known.book(sets))
            for (one, counts), (other, others) in itertools.product(sets, repeat=2):
                self.assertEqual(desk.say(f"beside s {one} {other}"), "ok")
                self.assertEqual(desk.say("counts s"), words(map(sum, zip(counts, others))))
                self.assertEqual(desk.say(f"pair p {one} {other}"), "ok")
                marks = [a * b for a, b in zip(marks_by(known.table, counts), marks_by(known.table, others))]
                self.assertEqual(desk.say("marks p"), words(marks))
                self.assertEqual(desk.say("counts p"), words(counts_by(known.table, marks)))

    def test_against_sets_in_full(self):
        for known in KNOWN[:3]:
            many = len(known.kinds)
            units = [[int(at == place) for place in range(many)] for at in range(1, many)]
            desk = Desk(known.book([]))
            for counts, others in itertools.product(units, repeat=2):
                desk.say(f"set a {words(counts)}")
                desk.say(f"set b {words(others)}")
                one, other = [set_of_counts(known.house, known.kinds, told) for told in (counts, others)]
                desk.say("beside c a b")
                desk.say("pair d a b")
                self.assertEqual(desk.say("counts c"), words(counts_of(known.house, known.kinds, beside(one, other))))
                self.assertEqual(desk.say("counts d"), words(counts_of(known.house, known.kinds, paired(one, other))))
                self.assertEqual(desk.say("marks d"), words(marks_of(known.kinds, paired(one, other))))

    def test_colours(self):
        for known in KNOWN:
            desk = Desk(known.book([]))
            for colours in [0, 1, 2, 3, 10, BIG]:
                self.assertEqual(desk.say(f"colours new {colours}"), "ok")
                counts = patterns_by(known.house, known.kinds, known.things, colours)
                self.assertEqual(desk.say("counts new"), words(counts))
                self.assertEqual(str(sum(counts)), desk.say(f"patterns {colours}"))

    def test_a_name_that_stands_already_stays_at_its_place(self):
        desk = Desk("things 2\nturn (0 1)\nset a 1 1\nset b 2 2\nset c 3 3")
        for row, counts in [("set b 7 8", "7 8"), ("beside b a c", "4 4"), ("pair b b b", "64 16"), ("colours b 2", "1 2"),
                            ("beside b b b", "2 4"), ("pair b a b", "10 4")]:
            self.assertEqual(desk.say(row), "ok")
            self.assertEqual(desk.say("book"), f"things 2\nturn (0 1)\nset a 1 1\nset b {counts}\nset c 3 3")

    def test_another_name_comes_behind_all(self):
        desk = Desk("things 2\nturn (0 1)\nset m 1 1")
        for row in ["set z 1 2", "beside a m m", "colours y 3", "pair b m m"]:
            desk.say(row)
        self.assertEqual([line.split()[1] for line in desk.say("book").split("\n")[2:]], ["m", "z", "a", "y", "b"])

    def test_drop(self):
        desk = Desk("things 1\nset a 1\nset b 2\nset c 3")
        self.assertEqual(desk.say("drop b"), "ok")
        self.assertEqual(desk.say("book"), "things 1\nset a 1\nset c 3")
        for row in ["counts b", "marks b", "drop b", "ways a b", "ways b a", "beside x a b", "pair x b a"]:
            check_refused(self, NoName, desk.say, row)
        self.assertEqual(desk.say("set b 5"), "ok")
        self.assertEqual(desk.say("book"), "things 1\nset a 1\nset c 3\nset b 5")
        for name in "abc":
            desk.say(f"drop {name}")
        self.assertEqual(desk.say("book"), "things 1")

    def test_counts_of_more_than_thirty_figures(self):
        desk = Desk("things 1\nset a " + "9" * 30)
        desk.say("beside b a a")
        self.assertEqual(desk.say("counts b"), str(2 * BIG))
        desk.say("pair c a a")
        self.assertEqual(desk.say("book"), f"things 1\nset a {BIG}\nset b {2 * BIG}\nset c {BIG ** 2}")
        check_refused(self, NoText, read_book, desk.say("book"), line=2)
        for _ in range(5):
            desk.say("pair c c c")
        self.assertEqual(desk.say("counts c"), str(BIG ** 64))
        desk = Desk("things 7")
        desk.say(f"colours a {BIG}")
        self.assertEqual(desk.say("marks a"), str(BIG ** 7))


def row_names(known):
    """Rows of each sort that are answered where sets a and b stand and x doesn't."""
    each = words([1] * len(known.kinds))
    return ["book", "turns", "parts", "kinds", "kind 0", "mark 0 0", "row 0", "marks a", "counts b", f"set x {each}",
            "beside x a b", "pair x b a", "colours x 2", "patterns 2", f"solve {each}", f"uneven {each}", "ways a b",
            "drop a"]


class TestRefusals(unittest.TestCase):
    def setUp(self):
        self.desk = Desk("things 3\nturn (0 1)\nturn (0 1 2)\nset a 1 0 2 3\nset b 0 2 0 1")
        self.book = self.desk.say("book")

    def refused(self, error, row):
        check_refused(self, error, self.desk.say, row)
        self.assertEqual(self.desk.say("book"), self.book)
        with self.assertRaises(NoBack):
            self.desk.say("back")

    def test_what_is_no_text(self):
        for odd in odd_things() + [b"book", ["book"], ("book",), 3]:
            self.refused(NoRow, odd)

    def test_rows_that_are_none(self):
        for row in ["", " ", "  ", "x", "Book", "BOOK", "books", "boo", "book\n", "\tbook", "book\t", "kind\t0", "kind\n0",
                    "mark\t0 0", "Drop a", "help", "0", "-", "()", "say book", "things 3", "turn ()", "parts\r"]:
            self.refused(NoRow, row)

    def test_too_few_or_too_many_words(self):
        for row in row_names(KNOWN[0]) + ["back"]:
            whole = row.split(" ")
            for wrong in [" ".join(whole[:-1]), row + " 1", row + " a", row + " 1 1", row + " ", " " + row]:
                if wrong not in row_names(KNOWN[0]):
                    self.refused(NoRow, wrong)
            if len(whole) > 1:
                self.refused(NoRow, row.replace(" ", "  "))
                self.refused(NoRow, row.replace(" ", "  ", 1))
                self.refused(NoRow, row.replace(" ", "\t", 1))

    def test_a_number_for_each_kind(self):
        for row in ["set x", "set x 1", "set x 1 1 1", "set x 1 1 1 1 1", "solve", "solve 1 1 1", "solve 1 1 1 1 1",
                    "uneven", "uneven 1 1 1", "uneven 1 1 1 1 1"]:
            self.refused(NoRow, row)

    def test_words_that_are_not_written_so(self):
        wrong = ["", "00", "01", "+1", "1.0", "1e3", "x", "a", "0x1", "1_0", "-0", "--1", "-", "1-", "\t1", "1\t", "1\n",
                 "1" * 31, "1" + "0" * 30, "0" * 30, "-01", "-" + "1" * 31, "()", "1,"]
        for word in wrong:
            for row in ["kind {}", "mark {} 0", "mark 0 {}", "row {}", "set x {} 1 1 1", "set x 1 1 1 {}", "colours x {}",
                        "patterns {}", "solve {} 1 1 1", "solve 1 1 1 {}", "uneven {} 1 1 1", "uneven 1 1 1 {}"]:
                self.refused(NoRow, row.format(word))

    def test_a_minus_stands_before_marks_alone(self):
        for row in ["kind -1", "mark -1 0", "mark 0 -1", "row -1", "set x -1 1 1 1", "set x 1 1 1 -1", "colours x -1",
                    "patterns -1"]:
            self.refused(NoRow, row)
        self.assertEqual(self.desk.say("solve -6 0 0 0"), "below 0")
        self.assertEqual(self.desk.say("uneven -1 -1 -1 -1"), "none")
        self.assertEqual(self.desk.say("solve -" + "9" * 30 + " 0 0 0"), "none 0")
        self.assertEqual(self.desk.say("solve -" + "9" * 29 + "6 0 0 0"), "below 0")

    def test_no_kinds_number(self):
        for number in ["4", "5", "60", "9" * 30]:
            for row in ["kind {}", "row {}", "mark {} 0", "mark 0 {}", "mark {} {}"]:
                self.refused(NoNumber, row.replace("{}", number))

    def test_names_by_which_no_set_stands(self):
        for name in ["", "x", "aa", "A", "abcdefghi", "1", "a1", "-", "a\t", "\ta", "a\n", "()", "a-b", "set", "_"]:
            for row in ["marks {}", "counts {}", "beside x {} a", "beside x a {}", "pair x {} b", "pair x b {}",
                        "ways {} a", "ways a {}", "drop {}", "ways {} {}"]:
                self.refused(NoName, row.replace("{}", name))

    def test_new_names_that_are_none(self):
        for name in ["", "A", "abcdefghi", "1", "a1", "-", "a\t", "\ta", "a\n", "()", "a-b", "_", "a.", "aB"]:
            for row in ["set {} 1 1 1 1", "beside {} a b", "pair {} a b", "colours {} 2", "beside {} x y"]:
                self.refused(NoName, row.replace("{}", name))
        self.assertEqual(self.desk.say("set abcdefgh 1 1 1 1"), "ok")

    def test_a_row_that_is_none_goes_ahead(self):
        for row in ["mark 9 x", "mark x 9", "mark 9 01", "set A 1 1 1 x", "set A 1 1 1", "colours A x", "colours A -1",
                    "set  x 1 1 1", "ways x", "ways x y z", "beside A x", "kind ", "row ", "mark  0", "mark 0 ",
                    "patterns ", "colours x ", "counts", "drop", "solve  1 1 1", "colours A " + "1" * 31,
                    "mark 9 " + "1" * 31]:
            self.refused(NoRow, row)

    def test_words_without_signs(self):
        for row in ["counts ", "marks ", "drop ", "ways  a", "ways a ", "ways  ", "beside  a b", "beside x  b",
                    "beside x a ", "pair  a b", "set  1 1 1 1", "colours  2"]:
            self.refused(NoName, row)

    def test_what_is_refused_is_not_undone(self):
        self.assertEqual(self.desk.say("set c 1 1 1 1"), "ok")
        for row, error in [("set A 1 1 1 1", NoName), ("drop x", NoName), ("colours d x", NoRow), ("pair d a x", NoName),
                           ("beside a x b", NoName), ("kind 4", NoNumber), (None, NoRow)]:
            check_refused(self, error, self.desk.say, row)
        self.assertEqual(self.desk.say("back"), "ok")
        self.assertEqual(self.desk.say("book"), self.book)
        check_refused(self, NoBack, self.desk.say, "back")


class TestBack(unittest.TestCase):
    def test_behind_each_kind_of_deed(self):
        start = "things 2\nturn (0 1)\nset a 1 1\nset b 2 2\nset c 3 3"
        for row in ["set b 7 8", "set x 7 8", "beside b a c", "beside x a c", "pair b b b", "pair x b b", "colours b 2",
                    "colours x 2", "drop a", "drop b", "drop c", "set b 2 2", "beside b b b"]:
            desk = Desk(start)
            self.assertEqual(desk.say(row), "ok")
            self.assertEqual(desk.say("back"), "ok")
            self.assertEqual(desk.say("book"), start)
            check_refused(self, NoBack, desk.say, "back")
            self.assertEqual(desk.say("book"), start)

    def test_a_deed_that_left_all_as_it_was(self):
        desk = Desk("things 1\nset a 1\nset b 1")
        desk.say("set c 5")
        desk.say("set a 1")
        self.assertEqual(desk.say("back"), "ok")
        self.assertEqual(desk.say("book"), "things 1\nset a 1\nset b 1\nset c 5")
        self.assertEqual(desk.say("back"), "ok")
        self.assertEqual(desk.say("book"), "things 1\nset a 1\nset b 1")
        check_refused(self, NoBack, desk.say, "back")

    def test_none_was_done(self):
        for known in KNOWN:
            check_refused(self, NoBack, Desk(known.book([])).say, "back")

    def test_what_is_undone_counts_as_not_done(self):
        desk = Desk("things 1")
        for row in ["set a 1", "set b 2", "back", "set c 3", "back", "back"]:
            self.assertEqual(desk.say(row), "ok")
        self.assertEqual(desk.say("book"), "things 1")
        check_refused(self, NoBack, desk.say, "back")

    def test_drawn_rows_and_all_the_way_back(self):
        draw = random.Random(32)
        for known in KNOWN[:4]:
            desk = Desk(known.book([("a", [1] * len(known.kinds))]))
            books = [desk.say("book")]
            for _ in range(120):
                names = [line.split()[1] for line in desk.say("book").split("\n") if line.startswith("set ")]
                row = drawn_deed(draw, names, len(known.kinds))
                if row == "back":
                    if len(books) > 1:
                        self.assertEqual(desk.say("back"), "ok")
                        books.pop()
                    else:
                        check_refused(self, NoBack, desk.say, "back")
                else:
                    self.assertEqual(desk.say(row), "ok")
                    books.append(desk.say("book"))
                self.assertEqual(desk.say("book"), books[-1])
            while len(books) > 1:
                self.assertEqual(desk.say("back"), "ok")
                books.pop()
                self.assertEqual(desk.say("book"), books[-1])
            check_refused(self, NoBack, desk.say, "back")


def drawn_deed(draw, names, many):
    """A row that does something, with names that stand."""
    new = draw.choice("abcde")
    rows = [f"set {new} {words(draw.randrange(5) for _ in range(many))}", f"colours {new} {draw.randrange(4)}", "back"]
    if names:
        one, other = draw.choice(names), draw.choice(names)
        rows += [f"beside {new} {one} {other}", f"drop {one}", f"drop {other}"]
        if len(names) < 3:
            rows.append(f"pair {new} {one} {other}")
    return draw.choice(rows)


class TestBook(unittest.TestCase):
    def test_another_desk_answers_alike(self):
        draw = random.Random(33)
        for known in KNOWN:
            desk = Desk(known.book([]))
            each = words([1] * len(known.kinds))
            for row in [f"set b {each}", "colours a 2", "beside c b a", "pair d b b", f"set b {words(known.table[0])}",
                        "drop a", "colours a 3", "back", "back", "beside e d d"]:
                self.assertEqual(desk.say(row), "ok")
                text = desk.say("book")
                other = Desk(text)
                self.assertEqual(other.say("book"), text)
                names = [name for name, _ in read_book(text)[2]]
                rows = ["turns", "parts", "kinds", "kind 0", "row 0", "mark 0 0", f"solve {each}", f"uneven {each}"]
                rows += [f"{word} {name}" for word in ("counts", "marks") for name in names]
                rows += [f"ways {draw.choice(names)} c" for _ in names if "c" in names and len(known.kinds) < 9]
                for asked in rows:
                    if not asked.startswith("ways") or sum(map(int, desk.say("counts " + asked.split()[1]).split())) < 61:
                        self.assertEqual(other.say(asked), desk.say(asked))

    def test_against_the_modules_behind_each_deed(self):
        draw = random.Random(34)
        for known in KNOWN[:3]:
            sets = {"a": [1] * len(known.kinds)}
            desk = Desk(known.book(list(sets.items())))
            for _ in range(80):
                row = drawn_deed(draw, list(sets), len(known.kinds))
                if row == "back":
                    continue
                self.assertEqual(desk.say(row), "ok")
                sets = done(known, sets, row.split(" "))
                self.assertEqual(desk.say("book"), known.book(list(sets.items())))


def done(known, sets, row):
    """The sets behind the deed, by the modules."""
    told = dict(sets)
    if row[0] == "set":
        told[row[1]] = [int(word) for word in row[2:]]
    elif row[0] == "beside":
        told[row[1]] = [a + b for a, b in zip(sets[row[2]], sets[row[3]])]
    elif row[0] == "pair":
        marks = [marks_by(known.table, sets[name]) for name in row[2:]]
        told[row[1]] = counts_by(known.table, [a * b for a, b in zip(*marks)])
    elif row[0] == "colours":
        told[row[1]] = patterns_by(known.house, known.kinds, known.things, int(row[2]))
    else:
        del told[row[1]]
    return told


if __name__ == "__main__":
    unittest.main()
