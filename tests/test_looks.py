"""[3] and [13]: which papers are let by."""

import copy
import itertools
import unittest

from helpers import (ALT4, ALT5, SQUARE, SYM3, SYM4, SYM4_AND_TWO, check_own, cyclic, house_by, large_houses,
                     numbered_anew, odd_things, quaternions, small_houses, twos)
from plain import plain_paper, plain_shares, plainly_led, right_growths, right_movers, same_kind
from heldmarks.kinds import all_parts, kinds_of
from heldmarks.looks import lets_by
from heldmarks.marks import table_of
from heldmarks.papers import paper_of


def first(entries):
    return entries[0]


def last(entries):
    return entries[-1]


def places_in(thing, ahead=()):
    """The places of all that is within thing, lists and tuples and what is in them, as tuples of numbers."""
    told = [ahead]
    if isinstance(thing, (list, tuple)):
        for at, entry in enumerate(thing):
            told += places_in(entry, ahead + (at,))
    return told


def entry_at(thing, place):
    for at in place:
        thing = thing[at]
    return thing


def with_entry(thing, place, entry):
    """The thing with another entry at the place, made anew on the way there."""
    if not place:
        return entry
    told = list(thing)
    told[place[0]] = with_entry(told[place[0]], place[1:], entry)
    return tuple(told) if isinstance(thing, tuple) else told


def other_parts(house, kinds, number):
    """For each kind a part of it, led by another number each."""
    return [plainly_led(house, part, (number + 5 * at) % len(house)) for at, part in enumerate(kinds)]


class TestRightPapers(unittest.TestCase):
    def test_told_ones(self):
        for house in small_houses() + large_houses():
            self.assertIs(lets_by(house, paper_of(house)), True)

    def test_written_plainly_with_other_movers_and_other_t(self):
        for house in small_houses():
            for choose in [first, last, lambda entries: entries[len(entries) // 2]]:
                self.assertIs(lets_by(house, plain_paper(house, kinds_of(house), choose)), True)

    def test_with_the_parts_in_another_order(self):
        for house in [cyclic(12), house_by(SYM3), house_by(SQUARE), quaternions(), house_by(ALT4)]:
            kinds = kinds_of(house)
            for parts in [kinds[::-1], kinds[1:] + kinds[:1], sorted(kinds), kinds[::2] + kinds[1::2]]:
                self.assertIs(lets_by(house, plain_paper(house, parts, last)), True)

    def test_every_order_of_four_kinds(self):
        house = house_by(SYM3)
        for parts in itertools.permutations(kinds_of(house)):
            self.assertIs(lets_by(house, plain_paper(house, parts, first)), True)

    def test_with_other_parts_of_the_same_kinds(self):
        for house in [house_by(SYM3), house_by(SQUARE), house_by(ALT4), house_by(SYM4)]:
            for number in range(1, len(house), 3):
                parts = other_parts(house, kinds_of(house), number)
                self.assertIs(lets_by(house, plain_paper(house, parts[::-1], last)), True)
                self.assertIs(lets_by(house, plain_paper(house, parts, first)), True)

    def test_of_sixty_numbers_with_other_parts_in_another_order(self):
        for house in [house_by(ALT5), house_by(SYM4_AND_TWO)]:
            parts = other_parts(house, kinds_of(house), 7)
            self.assertIs(lets_by(house, plain_paper(house, parts[::-1], last)), True)

    def test_a_paper_is_right_for_its_own_house_alone(self):
        self.assertIs(lets_by(cyclic(4), paper_of(twos(4))), False)
        self.assertIs(lets_by(twos(4), paper_of(cyclic(4))), False)
        self.assertIs(lets_by(cyclic(6), paper_of(house_by(SYM3))), False)
        self.assertIs(lets_by([[0]], paper_of(cyclic(2))), False)
        self.assertIs(lets_by(cyclic(2), paper_of([[0]])), False)
        house = house_by(SYM3)
        self.assertIs(lets_by(numbered_anew(house, [0, 3, 5, 1, 4, 2]), paper_of(house)), False)


class TestWhatIsLetBy(unittest.TestCase):
    def test_just_one_part_of_each_kind(self):
        # Every set of parts is written down as well as it can be.
        for house in [cyclic(6), twos(4), house_by(SYM3), house_by(SQUARE), quaternions()]:
            kinds = kinds_of(house)
            every = all_parts(house)
            for many in range(len(every) + 1):
                for parts in itertools.combinations(every, many):
                    paper = plain_paper(house, parts, first)
                    once = all(sum(same_kind(house, part, found) for found in parts) == 1 for part in kinds)
                    self.assertIs(lets_by(house, paper), once, parts)

    def test_its_table_is_the_table_up_to_the_order(self):
        house = house_by(SQUARE)
        kinds = kinds_of(house)
        table = table_of(house, kinds)
        parts = other_parts(house, kinds, 3)[::-1]
        paper = plain_paper(house, parts, last)
        self.assertIs(lets_by(house, paper), True)
        order = [kinds.index(next(kind for kind in kinds if same_kind(house, kind, part))) for part in parts]
        self.assertEqual(paper[3], [[table[i][j] for j in order] for i in order])

    def test_a_kind_twice(self):
        for house in [cyclic(1), cyclic(2), house_by(SYM3), house_by(ALT4)]:
            kinds = kinds_of(house)
            for part in kinds:
                for number in range(len(house)):
                    more = plainly_led(house, part, number)
                    self.assertIs(lets_by(house, plain_paper(house, kinds + [more], first)), False)
                    self.assertIs(lets_by(house, plain_paper(house, [more] + kinds, last)), False)

    def test_all_parts_of_a_large_house(self):
        house = house_by(SYM4)
        self.assertIs(lets_by(house, plain_paper(house, all_parts(house), first)), False)

    def test_nought_left_out(self):
        # All that is grown from the other parts is there, so nothing else is wrong.
        for house in small_houses():
            kinds = kinds_of(house)
            self.assertIs(lets_by(house, plain_paper(house, kinds[1:], first)), False)
            self.assertIs(lets_by(house, plain_paper(house, kinds[len(kinds):], first)), False)
            if len(kinds) > 1:
                self.assertIs(lets_by(house, plain_paper(house, kinds[-1:], first)), False)

    def test_a_kind_left_out(self):
        for house in [cyclic(12), house_by(SYM3), house_by(SQUARE), house_by(ALT4)]:
            kinds = kinds_of(house)
            for at in range(1, len(kinds)):
                self.assertIs(lets_by(house, plain_paper(house, kinds[:at] + kinds[at + 1:], last)), False)


class TestWrongPapers(unittest.TestCase):
    def check_wrong(self, house, paper):
        self.assertIs(lets_by(house, paper), False)

    def test_a_part_that_is_none(self):
        house = house_by(SYM3)
        paper = paper_of(house)
        wrong = [(), (0, 1, 2), (1,), (1, 2), (0, 4, 3), (0, 0), (0, 1, 1), (0, 6), (0, -1), (0, True), (False, 1),
                 (False,), [0], [0, 1], (0, 1, 2, 3, 4), (0, 1, 2, 3, 4, 5, 6), ((0,),), 0, None]
        for at in range(4):
            for part in wrong:
                self.check_wrong(house, with_entry(paper, (0, at), part))

    def test_a_part_that_is_another(self):
        for house in [house_by(SYM3), house_by(SQUARE)]:
            paper = paper_of(house)
            for at, part in enumerate(paper[0]):
                for other in all_parts(house):
                    if other != part:
                        self.check_wrong(house, with_entry(paper, (0, at), other))

    def test_parts_that_change_places(self):
        house = house_by(SQUARE)
        paper = paper_of(house)
        for one, other in itertools.combinations(range(len(paper[0])), 2):
            parts = list(paper[0])
            parts[one], parts[other] = parts[other], parts[one]
            self.check_wrong(house, with_entry(paper, (0,), parts))

    def test_every_k_and_t(self):
        for house in [[[0]], cyclic(4), house_by(SYM3), house_by(SQUARE)]:
            paper = paper_of(house)
            parts = paper[0]
            for i, part in enumerate(parts):
                for number in range(len(house)):
                    right = right_growths(house, parts, part, number)
                    for entry in itertools.product(range(-1, len(parts) + 1), range(-1, len(house) + 1)):
                        told = lets_by(house, with_entry(paper, (1, i, number), entry))
                        self.assertIs(told, entry in right)

    def test_k_and_t_counted_from_the_end(self):
        for house in [[[0]], cyclic(2), house_by(SYM3)]:
            paper = paper_of(house)
            for i, row in enumerate(paper[1]):
                for number, (k, t) in enumerate(row):
                    self.check_wrong(house, with_entry(paper, (1, i, number), (k - len(paper[0]), t)))
                    self.check_wrong(house, with_entry(paper, (1, i, number), (k, t - len(house))))

    def test_every_mover(self):
        for house in [[[0]], cyclic(4), twos(4), house_by(SYM3), house_by(SQUARE)]:
            paper = paper_of(house)
            parts = paper[0]
            for i, part in enumerate(parts):
                for j, other in enumerate(parts):
                    for at, share in enumerate(plain_shares(house, part)):
                        right = right_movers(house, share, other)
                        for entry in [None, *range(-len(house), len(house) + 1)]:
                            told = lets_by(house, with_entry(paper, (2, i, j, at), entry))
                            self.assertIs(told, entry in right)

    def test_none_for_a_mover_with_the_table_along(self):
        house = house_by(SYM3)
        paper = paper_of(house)
        for i, row in enumerate(paper[2]):
            for j, movers in enumerate(row):
                for at, mover in enumerate(movers):
                    entry, more = (None, 1) if mover is not None else (paper[0][j][-1], -1)
                    wrong = with_entry(paper, (2, i, j, at), entry)
                    self.check_wrong(house, with_entry(wrong, (3, i, j), paper[3][i][j] + more))

    def test_every_entry_of_the_table(self):
        for house in [[[0]], cyclic(6), house_by(SYM3), house_by(SQUARE)]:
            paper = paper_of(house)
            for i, row in enumerate(paper[3]):
                for j, entry in enumerate(row):
                    for other in [entry + 1, entry - 1, -entry, 0, 1, 10 ** 29]:
                        if other != entry:
                            self.check_wrong(house, with_entry(paper, (3, i, j), other))

    def test_a_table_led_over_its_diagonal(self):
        house = house_by(SYM3)
        parts, grown, moved, table = paper_of(house)
        self.check_wrong(house, (parts, grown, moved, [list(column) for column in zip(*table)]))
        self.check_wrong(house, (parts, grown, [list(column) for column in zip(*moved)], table))

    def test_of_sixty_numbers_with_one_thing_wrong(self):
        house = house_by(ALT5)
        paper = paper_of(house)
        last_kind = len(paper[0]) - 1
        self.check_wrong(house, with_entry(paper, (1, 0, 59), (last_kind, 0)))
        self.check_wrong(house, with_entry(paper, (1, last_kind, 59), (0, 0)))
        self.check_wrong(house, with_entry(paper, (2, 0, last_kind, 59), None))
        self.check_wrong(house, with_entry(paper, (2, last_kind, last_kind, 0), 59))
        self.check_wrong(house, with_entry(paper, (3, last_kind, last_kind), 2))
        self.check_wrong(house, with_entry(paper, (3, 0, last_kind), 1))


class TestForms(unittest.TestCase):
    """Of a paper that is right but for the form of one thing in it."""

    def setUp(self):
        self.cases = [(house, paper_of(house)) for house in [[[0]], cyclic(2), house_by(SYM3)]]

    def test_lists_of_other_lengths(self):
        for house, paper in self.cases:
            for place in places_in(paper):
                entry = entry_at(paper, place)
                if isinstance(entry, (list, tuple)):
                    for other in [entry[:-1], entry[1:], entry + entry[-1:], entry[:1] + entry, entry + entry]:
                        self.assertIs(lets_by(house, with_entry(paper, place, other)), False)

    def test_tuples_for_lists_and_lists_for_tuples(self):
        for house, paper in self.cases:
            for place in places_in(paper):
                entry = entry_at(paper, place)
                if isinstance(entry, (list, tuple)):
                    other = tuple(entry) if isinstance(entry, list) else list(entry)
                    self.assertIs(lets_by(house, with_entry(paper, place, other)), False)

    def test_truths_for_numbers(self):
        for house, paper in self.cases:
            for place in places_in(paper):
                entry = entry_at(paper, place)
                if isinstance(entry, int) and entry in (0, 1):
                    self.assertIs(lets_by(house, with_entry(paper, place, bool(entry))), False)

    def test_false_for_none(self):
        for house, paper in self.cases:
            for place in places_in(paper[2], (2,)):
                if entry_at(paper, place) is None:
                    for other in [False, True, 0, -1, "", [], ()]:
                        self.assertIs(lets_by(house, with_entry(paper, place, other)), False)

    def test_odd_things_at_every_place(self):
        for house, paper in self.cases:
            for place in places_in(paper):
                entry = entry_at(paper, place)
                for odd in odd_things():
                    if odd.__class__ != entry.__class__ or odd != entry:
                        self.assertIs(lets_by(house, with_entry(paper, place, odd)), False)

    def test_whatever_thing(self):
        for house in [[[0]], cyclic(2), house_by(SYM3), house_by(ALT5)]:
            for thing in odd_things() + [0, 1, "paper", ([], [], [], []), ([(0,)],), (None,) * 4, ([],) * 4,
                                         ([(0,)], [], [], []), ([(0,)], [[]], [[]], [[]]), {0: 0, 1: 1, 2: 2, 3: 3},
                                         "abcd", [1, 2, 3, 4], (1, 2, 3, 4), ("a", "b", "c", "d")]:
                self.assertIs(lets_by(house, thing), False)

    def test_three_fields_and_five(self):
        for house, paper in self.cases:
            self.assertIs(lets_by(house, paper[:3]), False)
            self.assertIs(lets_by(house, paper + ([],)), False)
            self.assertIs(lets_by(house, paper[1:] + paper[:1]), False)
            self.assertIs(lets_by(house, paper[::-1]), False)

    def test_nothing_given_is_changed(self):
        for house, paper in self.cases:
            check_own(self, lets_by, house, copy.deepcopy(paper))
            check_own(self, lets_by, house_by(SYM3), copy.deepcopy(paper[:3]))
            check_own(self, lets_by, house_by(SYM3), copy.deepcopy(with_entry(paper, (3, 0, 0), 9)))

    def test_a_paper_that_is_changed_in_place(self):
        house = house_by(SYM3)
        paper = paper_of(house)
        self.assertIs(lets_by(house, paper), True)
        paper[3][1][1] += 1
        self.assertIs(lets_by(house, paper), False)
        paper[3][1][1] -= 1
        self.assertIs(lets_by(house, paper), True)

    def test_a_paper_whose_lists_are_one_and_the_same(self):
        # It is no matter which lists they are, if what stands in them is right.
        house = [[0]]
        row = [[None]]
        self.assertIs(lets_by(house, ([(0,)], [[(0, 0)]], [row], [[1]])), True)
        paper = paper_of(cyclic(2))
        paper[1][1] = [(1, 0), (1, 0)]
        paper[2][1][0] = paper[2][1][1]
        self.assertIs(lets_by(cyclic(2), paper), True)


if __name__ == "__main__":
    unittest.main()
