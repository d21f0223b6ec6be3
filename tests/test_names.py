"""[29]: groups, houses and parts named anew."""

import copy
import unittest

from helpers import (ALT4, ALT5, SEVEN, SQUARE, SYM3, SYM4, SYM4_AND_TWO, all_turns, check_own, check_refused, cyclic,
                     house_by, large_houses, numbered_anew, odd_things, small_houses, twos)
from heldmarks.errors import NoNumber
from heldmarks.groups import group_of, house_of
from heldmarks.houses import is_house
from heldmarks.kinds import all_parts, kinds_of
from heldmarks.names import named_group, named_house, named_part
from heldmarks.parts import is_part
from heldmarks.turns import contrary, then

GROUPS = [group_of(len(turns[0]), turns) for turns in
          [SYM3, SYM4, ALT4, ALT5, SQUARE, SYM4_AND_TWO, SEVEN, [(0,)], [(0, 1, 2)], [(1, 0, 2, 3)]]]


def orders_of(many):
    """Some orders of so many numbers, 0 first."""
    rest = list(range(1, many))
    told = [[0] + rest, [0] + rest[::-1], [0] + rest[1:] + rest[:1], [0] + rest[::2] + rest[1::2]]
    return told + [[0] + rest[1::2] + rest[::2][::-1]]


def wrong_orders(order):
    """What is no order for as many numbers: lists of another length are left out."""
    many = len(order)
    told = [tuple(order), dict.fromkeys(order), set(order), "".join(map(str, order)), range(many), iter(order),
            [tuple(order)], [order], None, True, False, 0, many, b"\x00"]
    told += [order[1:] + order[:1]] if many > 1 else [[1]]
    for at in range(0, many, 1 + many // 6):
        for entry in [order[at - 1] if many > 1 else 1, many, -1, -many, 10 ** 29, True, False, None, "", str(order[at]),
                      (order[at],), [order[at]], [], b"0", object()]:
            told.append(order[:at] + [entry] + order[at + 1:])
    return told


class TestNamedGroup(unittest.TestCase):
    def test_by_plain_reckoning(self):
        for group in GROUPS:
            many = len(group[0])
            for names in all_turns(many)[:: 1 + many ** 3 // 20]:
                anew = set()
                for turn in group:
                    led = {names[k]: names[turn[k]] for k in range(many)}
                    anew.add(tuple(led[k] for k in range(many)))
                told = named_group(group, names)
                self.assertIsInstance(told, tuple)
                self.assertEqual(told, tuple(sorted(anew)))
                self.assertEqual(told, group_of(many, list(told)))

    def test_there_and_back(self):
        for group in GROUPS:
            many = len(group[0])
            for names in all_turns(many)[:: 1 + many ** 3 // 20]:
                self.assertEqual(named_group(named_group(group, names), contrary(names)), group)

    def test_one_naming_then_another(self):
        for group in GROUPS:
            turns = all_turns(len(group[0]))
            one, other = turns[len(turns) // 3], turns[-1]
            self.assertEqual(named_group(named_group(group, one), other), named_group(group, then(one, other)))

    def test_by_one_of_its_own_turns_it_is_the_same(self):
        for group in GROUPS:
            for names in group[::7]:
                self.assertEqual(named_group(group, names), group)

    def test_those_that_are_known(self):
        self.assertEqual(named_group(((0, 1, 2), (1, 0, 2)), (1, 2, 0)), ((0, 1, 2), (0, 2, 1)))
        self.assertEqual(named_group(((0, 1, 2), (1, 0, 2)), (2, 0, 1)), ((0, 1, 2), (2, 1, 0)))
        self.assertEqual(named_group(((0,),), (0,)), ((0,),))

    def test_its_house_is_the_old_one_numbered_anew(self):
        for group in GROUPS:
            names = tuple(range(1, len(group[0]))) + (0,)
            told = named_group(group, names)
            order = [told.index(then(then(contrary(names), turn), names)) for turn in group]
            self.assertEqual(named_house(house_of(group), order), house_of(told))

    def test_nothing_given_is_changed(self):
        check_own(self, named_group, GROUPS[0], (1, 2, 0))


class TestNamedHouse(unittest.TestCase):
    def test_by_plain_reckoning(self):
        for house in small_houses() + large_houses():
            many = len(house)
            for order in orders_of(many):
                told = named_house(house, order)
                self.assertIsInstance(told, list)
                for a in range(many):
                    for b in range(many):
                        self.assertEqual(told[order[a]][order[b]], order[house[a][b]])
                self.assertEqual(told, numbered_anew(house, order))
                self.assertIs(is_house(told), True)

    def test_there_and_back(self):
        for house in small_houses() + large_houses():
            for order in orders_of(len(house)):
                back = [order.index(number) for number in range(len(order))]
                self.assertEqual(named_house(named_house(house, order), back), house)

    def test_those_that_are_known(self):
        self.assertEqual(named_house([[0]], [0]), [[0]])
        self.assertEqual(named_house(cyclic(3), [0, 2, 1]), cyclic(3))
        self.assertEqual(named_house(cyclic(4), [0, 2, 1, 3]), [[0, 1, 2, 3], [1, 0, 3, 2], [2, 3, 1, 0], [3, 2, 0, 1]])

    def test_what_is_no_order(self):
        for house in [cyclic(1), cyclic(2), cyclic(3), house_by(SYM3), twos(8), house_by(ALT5)]:
            for order in orders_of(len(house))[:2]:
                for wrong in wrong_orders(order):
                    check_refused(self, NoNumber, named_house, house, wrong)
            for odd in odd_things():
                if odd != [0] or len(house) > 1:
                    check_refused(self, NoNumber, named_house, house, odd)

    def test_orders_of_another_length(self):
        for many in range(1, 9):
            for length in list(range(many)) + [many + 1, many + 2, 60]:
                check_refused(self, NoNumber, named_house, cyclic(many), list(range(length)))

    def test_the_lists_are_the_askers_own(self):
        for house in [cyclic(1), house_by(SYM3)]:
            for order in orders_of(len(house)):
                check_own(self, named_house, copy.deepcopy(house), list(order))


class TestNamedPart(unittest.TestCase):
    def test_by_plain_reckoning(self):
        for house in small_houses() + large_houses():
            for order in orders_of(len(house)):
                anew = named_house(house, order)
                for part in kinds_of(house):
                    told = named_part(part, order)
                    self.assertIsInstance(told, tuple)
                    self.assertEqual(told, tuple(n for n in range(len(house)) if order.index(n) in part))
                    self.assertIs(is_part(anew, told), True)

    def test_all_parts_are_carried_along(self):
        for house in small_houses():
            for order in orders_of(len(house)):
                told = [named_part(part, order) for part in all_parts(house)]
                self.assertEqual(sorted(told, key=lambda part: (len(part), part)),
                                 all_parts(named_house(house, order)))

    def test_there_and_back(self):
        for house in small_houses():
            for order in orders_of(len(house)):
                back = [order.index(number) for number in range(len(order))]
                for part in all_parts(house):
                    self.assertEqual(named_part(named_part(part, order), back), part)

    def test_what_is_no_order(self):
        for part in [(0,), (0, 1), (0, 2)]:
            for order in [[0, 1, 2, 3], [0, 3, 2, 1]]:
                for wrong in wrong_orders(order):
                    check_refused(self, NoNumber, named_part, part, wrong)
        for part in [(0,), (0, 1)]:
            for odd in odd_things():
                if odd != [0]:
                    check_refused(self, NoNumber, named_part, part, odd)
        check_refused(self, NoNumber, named_part, (0,), [])
        check_refused(self, NoNumber, named_part, (0,), [0, 0])
        check_refused(self, NoNumber, named_part, (0,), [False])

    def test_an_order_that_ends_ahead_of_the_part(self):
        check_refused(self, NoNumber, named_part, (0, 2), [0])
        check_refused(self, NoNumber, named_part, (0, 2), [0, 1])
        self.assertEqual(named_part((0, 2), [0, 2, 1]), (0, 1))

    def test_nothing_given_is_changed(self):
        check_own(self, named_part, (0, 2), [0, 3, 1, 2])

    def test_what_is_changed_in_place(self):
        house, order = cyclic(4), [0, 1, 2, 3]
        self.assertEqual((named_house(house, order), named_part((0, 2), order)), (cyclic(4), (0, 2)))
        order[1:] = [2, 1, 3]
        self.assertEqual((named_house(house, order)[2], named_part((0, 2), order)), ([2, 3, 1, 0], (0, 1)))
        house[:] = twos(4)
        self.assertEqual(named_house(house, order), twos(4))
        order[1] = 1
        check_refused(self, NoNumber, named_house, house, order)


if __name__ == "__main__":
    unittest.main()
