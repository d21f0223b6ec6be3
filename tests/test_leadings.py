"""[27] and [28]: leadings of one house into another, and sets seen through them or grown along them."""

import copy
import itertools
import unittest

from helpers import (ALT4, ALT5, SQUARE, SYM3, SYM4, SYM4_AND_TWO, check_own, check_refused, cyclic, house_by,
                     large_houses, lists_in, numbered_anew, odd_things, paired_house, quaternions, small_houses, twos)
from plain import (all_leadings, number_of_kind, plain_counts, plain_marks, plain_share_set, plain_ways,
                   plainly_leading)
from heldmarks.errors import NoLeading
from heldmarks.grown import grown, ways
from heldmarks.kinds import all_parts, kinds_of
from heldmarks.leadings import core, grown_counts, image, is_leading, leading_of, seen_by, seen_counts
from heldmarks.marks import table_of
from heldmarks.moved import is_moved, set_of_counts, set_of_shares
from heldmarks.parts import is_part, makers_of, part_of
from heldmarks.pieces import counts_of, marks_of
from heldmarks.solving import marks_by
from heldmarks.sums import beside
from heldmarks.within import house_of_part, lie_in, seen, seen_set

BIG = 10 ** 30 - 7


def units(many):
    return [[int(at == place) for place in range(many)] for at in range(many)]


def small_pairs():
    """Small houses, and into each other all leadings, by going through all."""
    houses = [cyclic(1), cyclic(2), cyclic(3), cyclic(4), twos(4), house_by(SYM3)]
    return [(house, other, all_leadings(house, other)) for house in houses for other in houses]


PAIRS = small_pairs()


def leadings_of(house, other):
    """Some leadings of the house: all into the other one by what its makers may go to."""
    told = []
    makers = makers_of(house)
    for goals in itertools.product(range(len(other)), repeat=len(makers)):
        try:
            told.append(leading_of(house, other, makers, list(goals)))
        except NoLeading:
            pass
    return told


def known_leadings():
    """Tuples (house, other, leading): onto a house, into one, all to 0, and of a house into itself."""
    sym3, sym4, alt4, square = house_by(SYM3), house_by(SYM4), house_by(ALT4), house_by(SQUARE)
    told = [(cyclic(12), cyclic(4), tuple(a % 4 for a in range(12))), (cyclic(4), cyclic(12), (0, 3, 6, 9)),
            (paired_house(sym3, cyclic(2)), sym3, tuple(a // 2 for a in range(12))),
            (twos(8), twos(4), tuple(a & 3 for a in range(8))), (quaternions(), twos(4), (0, 1, 2, 3, 0, 1, 2, 3)),
            (sym4, square, (0,) * 24), (house_by(SYM4_AND_TWO), cyclic(1), (0,) * 48), (cyclic(1), sym4, (0,))]
    for house in [sym4, alt4, square, quaternions()]:
        for part in kinds_of(house):
            told.append((house_of_part(house, part), house, part))
    for house, other in [(sym4, sym3), (sym4, cyclic(2)), (square, square), (alt4, cyclic(3)), (sym3, sym4)]:
        told += [(house, other, leading) for leading in leadings_of(house, other)[:12]]
    return told


KNOWN = known_leadings()


class TestIsLeading(unittest.TestCase):
    def test_of_all_that_leave_nought_at_nought(self):
        for house, other, leadings in PAIRS:
            if len(other) ** len(house) <= 5000:
                for thing in itertools.product(range(len(other)), repeat=len(house)):
                    self.assertIs(is_leading(house, other, thing), thing in leadings)

    def test_those_that_are_known(self):
        for house, other, leading in KNOWN:
            self.assertTrue(plainly_leading(house, other, leading))
            self.assertIs(is_leading(house, other, leading), True)
        self.assertIs(is_leading([[0]], [[0]], (0,)), True)
        self.assertIs(is_leading(cyclic(2), cyclic(4), (0, 1)), False)

    def test_one_number_otherwise(self):
        for house, other, leading in KNOWN:
            for at in range(0, len(house), 1 + len(house) // 5):
                for number in range(0, len(other), 1 + len(other) // 5):
                    thing = leading[:at] + (number,) + leading[at + 1:]
                    self.assertIs(is_leading(house, other, thing), plainly_leading(house, other, thing))

    def test_what_is_no_tuple_of_numbers(self):
        for house, other, leading in KNOWN[:10] + KNOWN[-10:]:
            for thing in [list(leading), leading[:-1], leading + (0,), leading + leading, leading[1:], (), (leading,),
                          leading[:-1] + (len(other),), leading[:-1] + (-1,), leading[:-1] + (-len(other),)]:
                self.assertIs(is_leading(house, other, thing), False)
            for odd in odd_things():
                self.assertIs(is_leading(house, other, odd), False)
                self.assertIs(is_leading(house, other, leading[:-1] + (odd,)), False)
                self.assertIs(is_leading(house, other, (odd,) + leading[1:]), False)

    def test_truths_are_no_numbers(self):
        self.assertIs(is_leading(cyclic(2), cyclic(2), (0, 1)), True)
        for thing in [(0, True), (False, 1), (False, True), (False, 0), (0, False)]:
            self.assertIs(is_leading(cyclic(2), cyclic(2), thing), False)

    def test_nothing_given_is_changed(self):
        house, other = cyclic(4), house_by(SQUARE)
        for thing in [(0, 1, 2, 3), (0, 0, 0, 0), [0, 0, 0, 0], (0, 9, 0, 0)]:
            check_own(self, is_leading, copy.deepcopy(house), copy.deepcopy(other), thing)

    def test_of_large_houses(self):
        for house in large_houses():
            stay = tuple(range(len(house)))
            self.assertIs(is_leading(house, house, stay), True)
            self.assertIs(is_leading(house, house, (0,) * len(house)), True)
            self.assertIs(is_leading(house, house, stay[:-2] + (stay[-1], stay[-2])), False)


class TestLeadingOf(unittest.TestCase):
    def test_of_all_numbers_and_of_makers(self):
        for house, other, leading in KNOWN:
            told = leading_of(house, other, list(range(len(house))), list(leading))
            self.assertIsInstance(told, tuple)
            self.assertEqual(told, leading)
            makers = makers_of(house)
            self.assertEqual(leading_of(house, other, makers, [leading[number] for number in makers]), leading)

    def test_any_goals_of_makers(self):
        for house, other, leadings in PAIRS:
            for numbers in [makers_of(house), makers_of(house)[::-1], list(range(len(house)))[1:3]]:
                for goals in itertools.product(range(len(other)), repeat=len(numbers)):
                    right = [found for found in leadings if [found[number] for number in numbers] == list(goals)]
                    if right and len(part_of(house, numbers)) == len(house):
                        self.assertEqual(leading_of(house, other, numbers, list(goals)), right[0])
                    else:
                        check_refused(self, NoLeading, leading_of, house, other, numbers, list(goals))

    def test_some_numbers_twice_and_nought_among_them(self):
        for house, other, leading in KNOWN:
            numbers = makers_of(house) + [0] + makers_of(house)[::-1] + [0]
            goals = [leading[number] for number in numbers]
            self.assertEqual(leading_of(house, other, numbers, goals), leading)

    def test_one_number_to_two_goals(self):
        check_refused(self, NoLeading, leading_of, cyclic(4), cyclic(4), [1, 1], [1, 3])
        check_refused(self, NoLeading, leading_of, cyclic(4), cyclic(4), [1, 0], [1, 2])
        check_refused(self, NoLeading, leading_of, cyclic(4), cyclic(4), [0, 1], [1, 1])
        check_refused(self, NoLeading, leading_of, cyclic(4), cyclic(4), [1, 2], [1, 0])
        check_refused(self, NoLeading, leading_of, [[0]], cyclic(2), [0], [1])

    def test_of_the_house_of_nought_alone(self):
        for other in [cyclic(1), cyclic(5), house_by(ALT5)]:
            self.assertEqual(leading_of([[0]], other, [], []), (0,))
            self.assertEqual(leading_of([[0]], other, [0, 0], [0, 0]), (0,))

    def test_where_the_part_of_the_numbers_is_not_the_whole(self):
        for house, other, numbers in [(cyclic(4), cyclic(4), [2]), (cyclic(2), cyclic(2), []), (twos(4), twos(4), [1]),
                                      (house_by(SYM3), house_by(SYM3), [3]), (cyclic(2), cyclic(1), [0])]:
            check_refused(self, NoLeading, leading_of, house, other, numbers, [0] * len(numbers))
            check_refused(self, NoLeading, leading_of, house, other, numbers + numbers, [0] * 2 * len(numbers))

    def test_what_is_no_number_of_its_house(self):
        house, other = cyclic(2), cyclic(3)
        for odd in odd_things() + [3, 60, -2, -3]:
            check_refused(self, NoLeading, leading_of, house, other, [1, odd], [0, 0])
            check_refused(self, NoLeading, leading_of, house, other, [odd, 1], [0, 0])
            check_refused(self, NoLeading, leading_of, house, other, [1, 1], [0, odd])
            check_refused(self, NoLeading, leading_of, house, other, [1], [odd])
            check_refused(self, NoLeading, leading_of, house, other, [1, 0, odd], [0, 0, odd])
        check_refused(self, NoLeading, leading_of, cyclic(2), cyclic(3), [2], [0])
        check_refused(self, NoLeading, leading_of, cyclic(2), cyclic(3), [1, 2], [0, 0])
        check_refused(self, NoLeading, leading_of, cyclic(3), cyclic(2), [1], [2])

    def test_lists_of_unlike_lengths(self):
        for numbers, goals in [([1], []), ([], [0]), ([1, 1], [1]), ([1], [1, 1]), ([1, 2, 3], [1, 2]), ([0, 1], [0])]:
            check_refused(self, NoLeading, leading_of, cyclic(4), cyclic(4), numbers, goals)

    def test_what_is_no_list(self):
        for odd in odd_things():
            if not isinstance(odd, list):
                check_refused(self, NoLeading, leading_of, cyclic(2), cyclic(2), odd, [1])
                check_refused(self, NoLeading, leading_of, cyclic(2), cyclic(2), [1], odd)

    def test_of_large_houses(self):
        for house in large_houses():
            numbers = makers_of(house)
            self.assertEqual(leading_of(house, house, numbers, numbers), tuple(range(len(house))))
            self.assertEqual(leading_of(house, house, numbers, [0] * len(numbers)), (0,) * len(house))
            check_refused(self, NoLeading, leading_of, house, house, numbers[:-1], numbers[:-1])

    def test_nothing_given_is_changed(self):
        check_own(self, leading_of, cyclic(4), cyclic(2), [1, 1, 2], [1, 1, 0])


class TestCoreAndImage(unittest.TestCase):
    def test_by_plain_reckoning(self):
        for house, other, leading in KNOWN:
            told = core(leading)
            self.assertEqual(told, tuple(a for a in range(len(house)) if leading[a] == 0))
            self.assertIs(is_part(house, told), True)
            for part in all_parts(house):
                goal = image(leading, part)
                self.assertIsInstance(goal, tuple)
                self.assertEqual(goal, tuple(b for b in range(len(other)) if any(leading[a] == b for a in part)))
                self.assertIs(is_part(other, goal), True)

    def test_of_small_houses(self):
        for house, other, leadings in PAIRS:
            for leading in leadings:
                self.assertIs(is_part(house, core(leading)), True)
                self.assertEqual(len(core(leading)) * len(image(leading, tuple(range(len(house))))), len(house))
                self.assertEqual(image(leading, core(leading)), (0,))
                self.assertEqual(image(leading, (0,)), (0,))

    def test_those_that_are_known(self):
        leading = tuple(a % 4 for a in range(12))
        self.assertEqual(core(leading), (0, 4, 8))
        self.assertEqual(image(leading, (0, 6)), (0, 2))
        self.assertEqual((core((0,)), image((0,), (0,))), ((0,), (0,)))
        # What goes up may come down, yet a part is told rising.
        self.assertEqual(image((0, 3, 2, 1), (0, 1, 2, 3)), (0, 1, 2, 3))


class TestSeenBy(unittest.TestCase):
    def test_by_the_goals_alone(self):
        for house, other, leading in KNOWN:
            kinds = kinds_of(other)
            for rows in [set_of_shares(other, kinds[0]), set_of_counts(other, kinds, [0] * (len(kinds) - 1) + [2])]:
                told = seen_by(rows, leading)
                self.assertEqual(told, [[rows[leading[a]][x] for x in range(len(rows[0]))] for a in range(len(house))])
                self.assertIs(is_moved(house, told), True)

    def test_without_things(self):
        for house, other, leading in KNOWN:
            self.assertEqual(seen_by([[] for _ in other], leading), [[] for _ in house])

    def test_by_the_leading_of_a_part_it_is_seen_through_the_part(self):
        house = house_by(SYM4)
        rows = set_of_shares(house, (0, 1))
        for part in all_parts(house):
            self.assertEqual(seen_by(rows, part), seen_set(rows, part))

    def test_the_lists_are_the_askers_own(self):
        for leading in [(0, 0, 0, 0), (0, 1, 0, 1)]:
            check_own(self, seen_by, [[0, 1], [1, 0]], leading)
            self.assertEqual(len({id(row) for row in lists_in(seen_by([[], []], leading))}), 5)


class TestSeenCounts(unittest.TestCase):
    def test_of_one_piece_of_each_kind(self):
        for house, other, leading in KNOWN:
            kinds, other_kinds = kinds_of(house), kinds_of(other)
            for part, counts in zip(other_kinds, units(len(other_kinds))):
                rows = plain_share_set(other, part)
                told = seen_counts(house, other, leading, counts)
                self.assertIsInstance(told, list)
                self.assertEqual(told, plain_counts(house, kinds, [rows[goal] for goal in leading]))

    def test_all_leadings_of_small_houses(self):
        for house, other, leadings in PAIRS:
            kinds, other_kinds = kinds_of(house), kinds_of(other)
            for leading in leadings:
                for part, counts in zip(other_kinds, units(len(other_kinds))):
                    rows = [plain_share_set(other, part)[goal] for goal in leading]
                    self.assertEqual(seen_counts(house, other, leading, counts), plain_counts(house, kinds, rows))

    def test_of_any_whole_numbers(self):
        for house, other, leading in KNOWN[::3]:
            many = len(kinds_of(other))
            parts = [seen_counts(house, other, leading, unit) for unit in units(many)]
            for counts in [[0] * many, [-1] * many, [BIG * (-1) ** at - at for at in range(many)]]:
                told = [sum(count * row[at] for count, row in zip(counts, parts)) for at in range(len(parts[0]))]
                self.assertEqual(seen_counts(house, other, leading, counts), told)

    def test_by_the_leading_of_a_part_they_are_seen_through_the_part(self):
        house = house_by(SYM4)
        kinds = kinds_of(house)
        counts = [at * at - 9 for at in range(len(kinds))]
        for part in all_parts(house):
            self.assertEqual(seen_counts(house_of_part(house, part), house, part, counts),
                             seen(house, kinds, part, counts))

    def test_marks_are_those_of_the_images(self):
        for house, other, leading in KNOWN[::2]:
            kinds, other_kinds = kinds_of(house), kinds_of(other)
            rows = beside(set_of_shares(other, other_kinds[0]), set_of_shares(other, other_kinds[-1]))
            marks = plain_marks([image(leading, part) for part in kinds], rows)
            self.assertEqual(marks_of(kinds, seen_by(rows, leading)), marks)

    def test_of_large_houses(self):
        for house in large_houses():
            kinds = kinds_of(house)
            counts = list(range(len(kinds)))
            stay = tuple(range(len(house)))
            self.assertEqual(seen_counts(house, house, stay, counts), counts)
            self.assertEqual(grown_counts(house, house, stay, counts), counts)
            things = sum(count * (len(house) // len(part)) for count, part in zip(counts, kinds))
            nought = (0,) * len(house)
            self.assertEqual(seen_counts(house, house, nought, counts), [0] * (len(kinds) - 1) + [things])
            self.assertEqual(grown_counts(house, house, nought, counts), [sum(counts)] + [0] * (len(kinds) - 1))

    def test_the_list_is_the_askers_own(self):
        check_own(self, seen_counts, cyclic(4), cyclic(2), (0, 1, 0, 1), [3, -1])


class TestGrownCounts(unittest.TestCase):
    def test_by_the_kinds_of_the_images(self):
        for house, other, leading in KNOWN:
            kinds, other_kinds = kinds_of(house), kinds_of(other)
            goals = [number_of_kind(other, other_kinds, tuple(sorted({leading[a] for a in part}))) for part in kinds]
            for counts in units(len(kinds)) + [[0] * len(kinds), [BIG * (-1) ** at - at for at in range(len(kinds))]]:
                told = grown_counts(house, other, leading, counts)
                self.assertIsInstance(told, list)
                self.assertEqual(told, [sum(count for count, goal in zip(counts, goals) if goal == kind)
                                        for kind in range(len(other_kinds))])

    def test_from_the_house_of_a_part_they_grow_from_the_part(self):
        house = house_by(SYM4)
        kinds = kinds_of(house)
        for part in all_parts(house):
            counts = [at - 2 for at in range(len(lie_in(house, kinds, part)))]
            self.assertEqual(grown_counts(house_of_part(house, part), house, part, counts),
                             grown(house, kinds, part, counts))

    def test_those_that_are_known(self):
        # Pieces of both kinds of two numbers go to the stay alone.
        self.assertEqual(grown_counts(cyclic(2), cyclic(1), (0, 0), [3, 4]), [7])
        self.assertEqual(grown_counts(cyclic(4), cyclic(2), (0, 1, 0, 1), [1, 10, 100]), [11, 100])
        self.assertEqual(seen_counts(cyclic(4), cyclic(2), (0, 1, 0, 1), [3, 5]), [0, 3, 5])
        self.assertEqual(seen_counts(cyclic(2), cyclic(1), (0, 0), [-6]), [0, -6])

    def test_as_many_ways_from_what_is_grown_as_into_what_is_seen(self):
        for house, other, leading in KNOWN:
            kinds, other_kinds = kinds_of(house), kinds_of(other)
            table, other_table = table_of(house, kinds), table_of(other, other_kinds)
            counts = [(at + 1) % 3 for at in range(len(kinds))]
            into = [at % 4 for at in range(len(other_kinds))]
            self.assertEqual(ways(grown_counts(house, other, leading, counts), marks_by(other_table, into)),
                             ways(counts, marks_by(table, seen_counts(house, other, leading, into))))

    def test_as_many_by_going_through_all(self):
        for house, other, leadings in PAIRS:
            kinds, other_kinds = kinds_of(house), kinds_of(other)
            for leading in leadings[:6]:
                for part, counts in zip(kinds, units(len(kinds))):
                    into = beside(set_of_shares(other, other_kinds[-1]), set_of_shares(other, other_kinds[len(other) // 4]))
                    rows = set_of_shares(house, part)
                    if len(into[0]) ** len(rows[0]) <= 1000:
                        self.assertEqual(plain_ways(rows, seen_by(into, leading)),
                                         ways(grown_counts(house, other, leading, counts), marks_of(other_kinds, into)))

    def test_the_list_is_the_askers_own(self):
        check_own(self, grown_counts, cyclic(4), cyclic(2), (0, 1, 0, 1), [1, 2, 3])

    def test_what_is_changed_in_place(self):
        house, other, counts = cyclic(4), cyclic(2), [1, 10, 100]
        leading = (0, 1, 0, 1)
        self.assertEqual(grown_counts(house, other, leading, counts), [11, 100])
        counts[0] = 2
        self.assertEqual(grown_counts(house, other, leading, counts), [12, 100])
        house[:] = twos(4)
        self.assertIs(is_leading(house, other, leading), True)
        self.assertEqual(grown_counts(house, other, leading, [1, 10, 100, 1000, 10000]), [101, 11010])
        other[:] = cyclic(1)
        self.assertIs(is_leading(house, other, leading), False)

    def test_houses_numbered_anew(self):
        sym3 = house_by(SYM3)
        order = [0, 3, 5, 1, 4, 2]
        anew = numbered_anew(sym3, order)
        kinds, new_kinds = kinds_of(sym3), kinds_of(anew)
        goals = [number_of_kind(anew, new_kinds, image(tuple(order), part)) for part in kinds]
        for counts in units(len(kinds)):
            told = grown_counts(sym3, anew, tuple(order), counts)
            self.assertEqual(told.index(1), goals[counts.index(1)])
            self.assertEqual(seen_counts(sym3, anew, tuple(order), told), counts)

    def test_counts_of_sets_that_are_seen(self):
        for house in small_houses():
            kinds = kinds_of(house)
            rows = set_of_shares(house, kinds[0])
            for leading in [tuple(range(len(house))), (0,) * len(house)]:
                self.assertEqual(seen_counts(house, house, leading, counts_of(house, kinds, rows)),
                                 counts_of(house, kinds, seen_by(rows, leading)))


if __name__ == "__main__":
    unittest.main()
