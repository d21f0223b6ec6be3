"""[3]: the promise over the whole program, with groups named anew and their houses numbered anew."""

import random
import unittest

from helpers import (ALT4, ALT5, SEVEN, SQUARE, SYM3, SYM4, SYM4_AND_TWO, cyclic, house_by, paired_house, quaternions,
                     twos)
from plain import plain_counts, plain_mark, plain_marks, same_kind
from heldmarks.alike import same_tables
from heldmarks.colours import amounts_by, patterns, patterns_by
from heldmarks.desk import Desk
from heldmarks.errors import BelowNought, NoSet
from heldmarks.groups import group_of, house_of
from heldmarks.grown import grown, grown_set, ways
from heldmarks.kinds import all_parts, kind_of, kinds_of, many_of
from heldmarks.leadings import grown_counts, image, is_leading, leading_of, seen_by, seen_counts
from heldmarks.looks import lets_by
from heldmarks.marks import table_of
from heldmarks.moved import is_moved, set_of_counts, set_of_shares, set_of_things
from heldmarks.names import named_group, named_house, named_part
from heldmarks.papers import paper_of
from heldmarks.parts import makers_of
from heldmarks.pieces import counts_of, marks_of
from heldmarks.rests import first_uneven, growths, stayer_sums
from heldmarks.solving import counts_by, marks_by, solved
from heldmarks.sums import beside, pair_counts, paired
from heldmarks.texts import show_book
from heldmarks.turns import contrary, then
from heldmarks.within import house_of_part, seen, seen_set

TURNS = [SYM3, SYM4, ALT4, SQUARE, ALT5, SYM4_AND_TWO, SEVEN, [(0, 1, 2)], [(1, 0, 2, 3, 4), (0, 1, 2, 4, 3)]]


class Anew:
    """A house, and the same one numbered anew, with the order by which its kinds are carried along."""

    def __init__(self, house, order):
        self.house, self.order = house, order
        self.new_house = named_house(house, order)
        self.kinds, self.new_kinds = kinds_of(house), kinds_of(self.new_house)
        self.table = table_of(house, self.kinds)
        self.new_table = table_of(self.new_house, self.new_kinds)
        self.goals = [kind_of(self.new_house, self.new_kinds, named_part(part, order))[0] for part in self.kinds]

    def carried(self, numbers):
        """A number for each kind, in the order of the new kinds."""
        told = [None] * len(numbers)
        for goal, number in zip(self.goals, numbers):
            told[goal] = number
        return told

    def carried_set(self, rows):
        told = [None] * len(rows)
        for number, row in zip(self.order, rows):
            told[number] = list(row)
        return told


def houses_anew():
    """Houses of groups named anew, and other ones in drawn orders."""
    draw = random.Random(3)
    told = []
    for turns in TURNS:
        group = group_of(len(turns[0]), turns)
        names = tuple(draw.sample(range(len(turns[0])), len(turns[0])))
        anew = named_group(group, names)
        told.append(Anew(house_of(group), [anew.index(then(then(contrary(names), turn), names)) for turn in group]))
    for house in [cyclic(1), cyclic(12), twos(8), quaternions(), paired_house(house_by(SYM3), cyclic(4)),
                  house_by(SYM4), house_by(ALT4)]:
        told.append(Anew(house, [0] + draw.sample(range(1, len(house)), len(house) - 1)))
    return told


ANEW = houses_anew()


def is_solved(table, marks):
    try:
        solved(table, marks)
    except NoSet:
        return False
    return True


def some_sets(house, kinds):
    """Some sets of a house, each of at most sixty things."""
    told = [[[] for _ in house], set_of_shares(house, kinds[-1]), set_of_shares(house, kinds[len(kinds) // 2])]
    told.append(set_of_shares(house, kinds[0]))
    if len(kinds) > 1 and len(house) // len(kinds[-2]) <= 10:
        told.append(beside(set_of_shares(house, kinds[-2]), set_of_shares(house, kinds[-1])))
    return told


class TestNamedAnew(unittest.TestCase):
    def test_the_house_of_the_group_named_anew(self):
        for turns in TURNS:
            group = group_of(len(turns[0]), turns)
            for names in [tuple(range(len(turns[0])))[::-1], tuple(range(1, len(turns[0]))) + (0,)]:
                anew = named_group(group, names)
                order = [anew.index(then(then(contrary(names), turn), names)) for turn in group]
                self.assertEqual(house_of(anew), named_house(house_of(group), order))
                # The things are carried along, too: they are led as before, by their new names.
                rows, new_rows = set_of_things(group), set_of_things(anew)
                for number, row in enumerate(rows):
                    for thing, place in enumerate(row):
                        self.assertEqual(new_rows[order[number]][names[thing]], names[place])

    def test_kinds_are_carried_along(self):
        for known in ANEW:
            self.assertEqual(sorted(known.goals), list(range(len(known.kinds))))
            for part, goal in zip(known.kinds, known.goals):
                anew = named_part(part, known.order)
                self.assertTrue(same_kind(known.new_house, anew, known.new_kinds[goal]))
                self.assertEqual(many_of(known.house, part), many_of(known.new_house, anew))

    def test_the_table_is_carried_along(self):
        for known in ANEW:
            for i, row in enumerate(known.table):
                self.assertEqual(known.carried(row), known.new_table[known.goals[i]])
            if len(known.kinds) <= 16:
                order = same_tables(known.table, known.new_table)
                self.assertEqual(sorted(order), list(range(len(known.kinds))))

    def test_marks_and_counts_are_carried_along(self):
        for known in ANEW:
            for rows in some_sets(known.house, known.kinds):
                anew = known.carried_set(rows)
                self.assertIs(is_moved(known.new_house, anew), True)
                counts, marks = counts_of(known.house, known.kinds, rows), marks_of(known.kinds, rows)
                self.assertEqual(counts_of(known.new_house, known.new_kinds, anew), known.carried(counts))
                self.assertEqual(marks_of(known.new_kinds, anew), known.carried(marks))
                self.assertEqual(marks_by(known.new_table, known.carried(counts)), known.carried(marks))
                self.assertEqual(solved(known.new_table, known.carried(marks)), known.carried(counts))

    def test_rests_and_sums_are_carried_along(self):
        for known in ANEW:
            told = sorted((known.goals[i], known.goals[j], p) for i, j, p in growths(known.house, known.kinds))
            self.assertEqual(growths(known.new_house, known.new_kinds), told)
            marks = [at * at - 5 for at in range(len(known.kinds))]
            sums = stayer_sums(known.house, known.kinds, marks)
            self.assertEqual(stayer_sums(known.new_house, known.new_kinds, known.carried(marks)), known.carried(sums))
            for i in range(0, len(known.kinds), 4):
                for j in range(0, len(known.kinds), 3):
                    self.assertEqual(
                        pair_counts(known.new_house, known.new_kinds, known.goals[i], known.goals[j]),
                        known.carried(pair_counts(known.house, known.kinds, i, j)))

    def test_patterns_are_carried_along(self):
        for known in ANEW:
            for rows in some_sets(known.house, known.kinds):
                if len(rows[0]) <= 12:
                    anew = known.carried_set(rows)
                    self.assertEqual(patterns_by(known.new_house, known.new_kinds, anew, 3),
                                     known.carried(patterns_by(known.house, known.kinds, rows, 3)))
                    self.assertEqual(patterns(anew, 3), patterns(rows, 3))
                if len(rows[0]) <= 8:
                    amounts = [len(rows[0]) // 2, len(rows[0]) - len(rows[0]) // 2]
                    self.assertEqual(amounts_by(known.new_house, known.new_kinds, anew, amounts),
                                     known.carried(amounts_by(known.house, known.kinds, rows, amounts)))

    def test_what_is_seen_and_grown_is_carried_along(self):
        for known in ANEW:
            counts = [at % 5 - 1 for at in range(len(known.kinds))]
            leading = tuple(known.order)
            self.assertIs(is_leading(known.house, known.new_house, leading), True)
            self.assertEqual(grown_counts(known.house, known.new_house, leading, counts), known.carried(counts))
            self.assertEqual(seen_counts(known.house, known.new_house, leading, known.carried(counts)), counts)
            for part in known.kinds[::3]:
                anew = named_part(part, known.order)
                inner, new_inner = house_of_part(known.house, part), house_of_part(known.new_house, anew)
                # The part's house is numbered anew by the places of the new numbers.
                small = Anew(inner, [anew.index(known.order[number]) for number in part])
                self.assertEqual(small.new_house, new_inner)
                told = seen(known.house, known.kinds, part, counts)
                self.assertEqual(seen(known.new_house, known.new_kinds, anew, known.carried(counts)),
                                 small.carried(told))
                self.assertEqual(grown(known.new_house, known.new_kinds, anew, small.carried(told)),
                                 known.carried(grown(known.house, known.kinds, part, told)))

    def test_papers(self):
        for known in ANEW:
            if len(known.kinds) > 20:
                continue
            parts, grown_parts, moved, table = paper_of(known.house)
            self.assertIs(lets_by(known.house, (parts, grown_parts, moved, table)), True)
            self.assertEqual((parts, table), (known.kinds, known.table))
            self.assertEqual(lets_by(known.new_house, paper_of(known.new_house)), True)
            # The paper of the old house is one of the new house just where it is right there.
            if known.new_house != known.house:
                told = lets_by(known.new_house, (parts, grown_parts, moved, table))
                self.assertIn(told, (True, False))
                if told:
                    self.assertEqual(len({kind_of(known.new_house, known.new_kinds, part)[0] for part in parts}),
                                     len(known.new_kinds))

    def test_a_paper_with_its_kinds_in_another_order(self):
        for turns in [SYM3, SQUARE, ALT4]:
            house = house_by(turns)
            parts, grown_parts, moved, table = paper_of(house)
            many = len(parts)
            order = list(range(many))[::-1]
            paper = ([parts[i] for i in order], [[(order[k], t) for k, t in grown_parts[i]] for i in order],
                     [[moved[i][j] for j in order] for i in order], [[table[i][j] for j in order] for i in order])
            self.assertIs(lets_by(house, paper), True)
            told = same_tables(paper[3], table_of(house, kinds_of(house)))
            for i in range(many):
                for j in range(many):
                    self.assertEqual(paper[3][i][j], table[told[i]][told[j]])

    def test_a_desk_of_the_book_named_anew(self):
        for turns in [SYM3, SYM4, SQUARE, SEVEN]:
            many = len(turns[0])
            names = tuple(range(1, many)) + (0,)
            new_turns = [then(then(contrary(names), turn), names) for turn in turns]
            group, anew = group_of(many, turns), group_of(many, new_turns)
            self.assertEqual(named_group(group, names), anew)
            known = Anew(house_of(group), [anew.index(then(then(contrary(names), turn), names)) for turn in group])
            counts = [at % 3 for at in range(len(known.kinds))]
            one = Desk(show_book(many, turns, [("a", counts)]))
            other = Desk(show_book(many, new_turns, [("a", known.carried(counts))]))
            for row in ["turns", "parts", "kinds", "patterns 4", "ways a a"]:
                self.assertEqual(one.say(row), other.say(row))
            for row in ["beside b a a", "pair c a b", "colours d 3"]:
                self.assertEqual((one.say(row), other.say(row)), ("ok", "ok"))
            for row in ["marks a", "counts b", "counts c", "counts d", "marks d"]:
                self.assertEqual(known.carried(one.say(row).split()), other.say(row).split())


class TestTheWhole(unittest.TestCase):
    def test_all_kinds_each_once_and_plain_counts(self):
        for known in ANEW:
            if len(known.house) <= 24:
                for part in all_parts(known.new_house):
                    self.assertEqual(sum(same_kind(known.new_house, part, kind) for kind in known.new_kinds), 1)
                for i, part in enumerate(known.new_kinds):
                    self.assertEqual(known.new_table[i],
                                     [plain_mark(known.new_house, part, other) for other in known.new_kinds])

    def test_pieces_come_from_marks_alone(self):
        for known in ANEW:
            for rows in some_sets(known.new_house, known.new_kinds):
                self.assertEqual(counts_by(known.new_table, plain_marks(known.new_kinds, rows)),
                                 plain_counts(known.new_house, known.new_kinds, rows))

    def test_marks_that_no_set_has(self):
        for known in ANEW:
            for at, row in enumerate(known.new_table):
                below = [-entry for entry in row]
                with self.assertRaises(BelowNought) as caught:
                    counts_by(known.new_table, below)
                self.assertEqual(caught.exception.at, at)
                if row[at] > 1:
                    with self.assertRaises(NoSet) as caught:
                        counts_by(known.new_table, row[:at] + [row[at] - 1] + row[at + 1:])
                    self.assertEqual(caught.exception.at, at)

    def test_solved_just_where_none_is_uneven(self):
        draw = random.Random(20)
        for known in ANEW:
            for _ in range(6):
                marks = marks_by(known.new_table, [draw.randrange(-9, 10) for _ in known.kinds])
                self.assertIsNone(first_uneven(known.new_house, known.new_kinds, marks))
                marks[draw.randrange(len(marks))] += draw.randrange(1, 4)
                told = first_uneven(known.new_house, known.new_kinds, marks)
                self.assertIs(told is None, is_solved(known.new_table, marks))

    def test_side_by_side_and_in_pairs(self):
        for known in ANEW:
            sets = [rows for rows in some_sets(known.new_house, known.new_kinds) if len(rows[0]) <= 12]
            for one in sets:
                for other in sets:
                    marks, others = plain_marks(known.new_kinds, one), plain_marks(known.new_kinds, other)
                    self.assertEqual(plain_marks(known.new_kinds, beside(one, other)),
                                     [a + b for a, b in zip(marks, others)])
                    both = [a * b for a, b in zip(marks, others)]
                    self.assertEqual(plain_marks(known.new_kinds, paired(one, other)), both)
                    self.assertEqual(counts_of(known.new_house, known.new_kinds, paired(one, other)),
                                     counts_by(known.new_table, both))

    def test_seen_and_grown_fit(self):
        for known in ANEW:
            house, kinds, table = known.new_house, known.new_kinds, known.new_table
            into = [(at * 2 + 1) % 3 for at in range(len(kinds))]
            for part in kinds[:: 1 + len(kinds) // 8]:
                inner = house_of_part(house, part)
                inner_kinds = kinds_of(inner)
                counts = [at % 2 + int(at == 0) for at in range(len(inner_kinds))]
                seen_marks = marks_by(table_of(inner, inner_kinds), seen(house, kinds, part, into))
                self.assertEqual(ways(grown(house, kinds, part, counts), marks_by(table, into)), ways(counts, seen_marks))

    def test_sets_in_full_that_are_seen_and_grown(self):
        for known in ANEW:
            house, kinds = known.new_house, known.new_kinds
            for part in kinds[:: 1 + len(kinds) // 4]:
                inner = house_of_part(house, part)
                inner_kinds = kinds_of(inner)
                rows = set_of_shares(inner, inner_kinds[len(inner_kinds) // 2])
                told = grown_set(house, part, rows)
                self.assertIs(is_moved(house, told), True)
                counts = counts_of(house, kinds, told)
                self.assertEqual(counts, grown(house, kinds, part, counts_of(inner, inner_kinds, rows)))
                again = seen_set(told, part)
                self.assertEqual(counts_of(inner, inner_kinds, again), seen(house, kinds, part, counts))
                self.assertEqual(ways(counts, marks_of(kinds, told)),
                                 ways(counts_of(inner, inner_kinds, rows), marks_of(inner_kinds, again)))

    def test_along_a_leading_both_fit(self):
        sym4, sym3 = house_by(SYM4), house_by(SYM3)
        onto = next(leading for a in range(6) for b in range(6) for c in range(6)
                    for leading in tried(sym4, sym3, [a, b, c]) if len(set(leading)) == 6)
        kinds, other_kinds = kinds_of(sym4), kinds_of(sym3)
        rows = set_of_counts(sym3, other_kinds, [1, 2, 0, 1])
        told = seen_by(rows, onto)
        self.assertEqual(counts_of(sym4, kinds, told), seen_counts(sym4, sym3, onto, [1, 2, 0, 1]))
        self.assertEqual(marks_of(kinds, told), [plain_marks([image(onto, part)], rows)[0] for part in kinds])
        for at in range(len(kinds)):
            counts = [int(at == place) * 2 for place in range(len(kinds))]
            self.assertEqual(ways(grown_counts(sym4, sym3, onto, counts), marks_of(other_kinds, rows)),
                             ways(counts, marks_of(kinds, told)))


def tried(house, other, goals):
    """The leading by which the house's makers go to the goals, in a list, or none."""
    makers = makers_of(house)
    try:
        return [leading_of(house, other, makers, goals[:len(makers)])]
    except ValueError:
        return []


if __name__ == "__main__":
    unittest.main()
