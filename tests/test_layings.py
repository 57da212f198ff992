import copy
import random
import unittest
from fractions import Fraction
from itertools import product

from tests.helper import (
    all_parts, changed, check_refused, great_web, number, odd_things, plain_heights, plain_laying, plain_level,
    several_webs, some_laying, some_web,
)
from weblayers.errors import NoLaying, NoWeb
from weblayers.layers import level_heights, level_laying
from weblayers.layings import heights, is_laying, is_level, loads
from weblayers.webs import share

WEB = ((1, 1, 2), (((0,), 2), ((0, 1), 3), ((0, 1, 2), 1)))
LAYING = (((2, 1),), ((3, 2), (3, 2)), ((1, 3), (1, 3), (1, 3)))
EVEN = (((2, 1),), ((1, 2), (5, 2)), ((0, 1), (0, 1), (1, 1)))
BARE = ((4, 1), ())


class WhatALayingIs(unittest.TestCase):
    def good(self, thing, web=WEB):
        self.assertIs(is_laying(web, thing), True)

    def none(self, thing, web=WEB):
        self.assertIs(is_laying(web, thing), False)

    def test_layings(self):
        self.good(LAYING)
        self.good(EVEN)
        self.good((((2, 1),), ((0, 1), (3, 1)), ((0, 1), (0, 1), (1, 1))))
        self.good((((2, 1),), ((1, 10 ** 6), (2999999, 10 ** 6)), ((999999, 10 ** 6), (0, 1), (1, 10 ** 6))))
        self.good((((2, 1),), ((1, 999983), (2999948, 999983)), ((1, 2), (1, 3), (1, 6))))

    def test_amounts_may_be_great(self):
        web = ((1, 1, 1, 1), (((0, 1, 2, 3), 10 ** 6),))
        bottoms = (10 ** 6, 999983, 999979)
        parts = [Fraction(10 ** 9, bottom) for bottom in bottoms]
        last = 10 ** 6 - sum(parts)
        self.good((tuple(number(part) for part in parts + [last]),), web)
        self.none((tuple(number(part) for part in parts + [last + Fraction(1, 10 ** 6)]),), web)

    def test_a_web_without_ties(self):
        self.good((), BARE)
        for thing in ([], ((),), None, "", {}, (((0, 1),),), ((0, 1),)):
            self.none(thing, BARE)

    def test_one_tuple_for_each_tie(self):
        for at in range(3):
            self.none(LAYING[:at] + LAYING[at + 1:])
            self.none(LAYING[:at] + LAYING[at:at + 1] * 2 + LAYING[at + 1:])
        self.none(())
        self.none(LAYING + ((),))
        self.none((LAYING[1], LAYING[0], LAYING[2]))
        self.none((LAYING[0], LAYING[2], LAYING[1]))
        two = ((1, 1), (((0,), 1), ((1,), 2)))
        self.good((((1, 1),), ((2, 1),)), two)
        self.none((((2, 1),), ((1, 1),)), two)

    def test_one_amount_for_each_place(self):
        for amounts in (
            (), ((3, 1),), ((1, 1), (1, 1), (1, 1)), ((3, 2), (3, 2), (0, 1)), (3, 1), (3, 0), (1, 2), ((3, 1), ()),
        ):
            self.none((LAYING[0], amounts, LAYING[2]))

    def test_together_the_weight(self):
        for amounts in (
            ((3, 2), (5, 2)), ((3, 2), (1, 2)), ((0, 1), (0, 1)), ((3, 1), (3, 1)), ((3, 1), (1, 10 ** 6)),
            ((3, 2), (1499999, 10 ** 6)),
        ):
            self.none((LAYING[0], amounts, LAYING[2]))

    def test_amounts_from_0_on(self):
        self.good((LAYING[0], ((3, 1), (0, 1)), LAYING[2]))
        self.none((LAYING[0], ((4, 1), (-1, 1)), LAYING[2]))
        self.none((LAYING[0], ((-1, 10 ** 6), (3000001, 10 ** 6)), LAYING[2]))

    def test_amounts_in_lowest_terms(self):
        for amounts in (
            ((6, 4), (3, 2)), ((3, 2), (6, 4)), ((3, 1), (0, 2)), ((0, 3), (3, 1)), ((6, 2), (0, 1)), ((3, 1), (0, 0)),
            ((-3, -2), (3, 2)), ((3, 1), (0, -1)),
        ):
            self.none((LAYING[0], amounts, LAYING[2]))

    def test_other_kinds_for_numbers(self):
        for one in (3, True, None, "3", (3,), (3, 1, 1), [3, 1], ((3, 1),), ("3", 1), (3, True), (3, "1"), Fraction(3), {}):
            self.none((LAYING[0], (one, (0, 1)), LAYING[2]))
        for one in (0, False, None, "", (), (False, 1), (0, True), (0, None), [0, 1]):
            self.none((LAYING[0], ((3, 1), one), LAYING[2]))

    def test_lists_for_tuples(self):
        self.none(list(LAYING))
        self.none((list(LAYING[0]), LAYING[1], LAYING[2]))
        self.none((LAYING[0], LAYING[1], ([1, 3], (1, 3), (1, 3))))

    def test_things_of_any_kind(self):
        for thing in odd_things() + [0, 1]:
            self.none(thing)
            self.none(thing, BARE)

    def test_things_of_any_kind_at_every_depth(self):
        for web, laying in ((WEB, LAYING), (BARE, ()), (((1, 1), (((0, 1), 2),)), (((1, 1), (1, 1)),))):
            for thing in changed(laying, odd_things()):
                self.assertIs(is_laying(web, thing), plain_laying(web, thing))


class LoadsAndHeights(unittest.TestCase):
    def test_by_hand(self):
        for web, laying, load, high in (
            (WEB, LAYING, ((23, 6), (11, 6), (1, 3)), ((23, 6), (11, 6), (1, 6))),
            (WEB, EVEN, ((5, 2), (5, 2), (1, 1)), ((5, 2), (5, 2), (1, 2))),
            (BARE, (), ((0, 1), (0, 1)), ((0, 1), (0, 1))),
            (((100,), (((0,), 10 ** 6),)), (((10 ** 6, 1),),), ((10 ** 6, 1),), ((10 ** 4, 1),)),
            (((2, 4, 6, 8), (((0, 1, 2, 3), 4),)), (((1, 1),) * 4,), ((1, 1),) * 4, ((1, 2), (1, 4), (1, 6), (1, 8))),
            (
                ((3, 9), (((0,), 6), ((0, 1), 2), ((1,), 1))), (((6, 1),), ((1, 2), (3, 2)), ((1, 1),)),
                ((13, 2), (5, 2)), ((13, 6), (5, 18)),
            ),
            (
                ((1, 1), (((0, 1), 1), ((1,), 1))), (((1, 10 ** 6), (999999, 10 ** 6)), ((1, 1),)),
                ((1, 10 ** 6), (1999999, 10 ** 6)), ((1, 10 ** 6), (1999999, 10 ** 6)),
            ),
        ):
            self.assertEqual(loads(web, laying), load)
            self.assertEqual(heights(web, laying), high)

    def test_many_layings(self):
        chance = random.Random(7)
        for web in several_webs():
            laying = some_laying(chance, web, (1, 2, 9, 999983, 10 ** 6))
            self.assertTrue(is_laying(web, laying))
            high = plain_heights(web, laying)
            self.assertEqual(heights(web, laying), tuple(number(one) for one in high))
            self.assertEqual(loads(web, laying), tuple(number(one * price) for one, price in zip(high, web[0])))

    def test_no_part_has_a_greater_share_than_the_greatest_height(self):
        chance = random.Random(8)
        for web in several_webs():
            most = max(Fraction(*one) for one in heights(web, some_laying(chance, web)))
            for part in all_parts(len(web[0])):
                self.assertLessEqual(Fraction(*share(web, part)), most)


class Level(unittest.TestCase):
    def test_by_hand(self):
        for web, laying, told in (
            (WEB, EVEN, True),
            (WEB, LAYING, False),
            (WEB, (((2, 1),), ((1, 2), (5, 2)), ((0, 1), (1, 10 ** 6), (999999, 10 ** 6))), False),
            (WEB, (((2, 1),), ((499999, 10 ** 6), (2500001, 10 ** 6)), ((0, 1), (0, 1), (1, 1))), False),
            (BARE, (), True),
            (((1, 1), (((0,), 5), ((0, 1), 1))), (((5, 1),), ((0, 1), (1, 1))), True),
            (((1, 1), (((0,), 5), ((0, 1), 1))), (((5, 1),), ((1, 2), (1, 2))), False),
            (((1, 3), (((0, 1), 4),)), (((1, 1), (3, 1)),), True),
            (((1, 3), (((0, 1), 4),)), (((2, 1), (2, 1)),), False),
            (((1, 3), (((0, 1), 4),)), (((4, 1), (0, 1)),), False),
            (((1, 3), (((0, 1), 4),)), (((0, 1), (4, 1)),), False),
            (((1, 1, 1), (((0, 1), 2), ((1, 2), 1))), (((1, 1), (1, 1)), ((0, 1), (1, 1))), True),
            (((1, 1, 1), (((0, 1), 2), ((1, 2), 1))), (((1, 1), (1, 1)), ((1, 2), (1, 2))), False),
        ):
            self.assertIs(is_level(web, laying), told)

    def test_level_layings_and_the_same_with_a_little_moved(self):
        moved = 0
        for web in several_webs():
            laying = level_laying(web)
            self.assertIs(is_level(web, laying), True)
            for tie, amounts in enumerate(laying):
                for one, other in ((0, -1), (-1, 0)):
                    if len(amounts) > 1 and amounts[one][0]:
                        little = min(Fraction(1, 10 ** 6), Fraction(*amounts[one]))
                        fresh = list(amounts)
                        fresh[one] = number(Fraction(*amounts[one]) - little)
                        fresh[other] = number(Fraction(*amounts[other]) + little)
                        thing = laying[:tie] + (tuple(fresh),) + laying[tie + 1:]
                        self.assertTrue(is_laying(web, thing))
                        self.assertIs(is_level(web, thing), False)
                        moved += 1
        self.assertGreater(moved, 1000)

    def test_many_layings(self):
        chance = random.Random(9)
        for web in several_webs():
            for turn in range(3):
                laying = some_laying(chance, web)
                self.assertIs(is_level(web, laying), plain_level(web, laying))

    def test_all_level_layings_have_the_heights_told(self):
        chance = random.Random(10)
        level = 0
        for turn in range(150):
            web = some_web(chance, chance.randint(1, 3), 3, most_cost=2, most_weight=2)
            for bottom in (1, 2, 3):
                for laying in all_layings(web, bottom):
                    self.assertIs(is_level(web, laying), plain_level(web, laying))
                    if is_level(web, laying):
                        level += 1
                        self.assertEqual(heights(web, laying), level_heights(web))
        self.assertGreater(level, 300)

    def test_other_level_layings_have_the_same_heights(self):
        web = ((1, 1, 1), (((0, 1), 2), ((0, 1, 2), 3), ((0, 2), 2), ((1, 2), 2)))
        self.assertEqual(level_heights(web), ((3, 1),) * 3)
        for turn in (Fraction(-1), Fraction(-1, 3), Fraction(0), Fraction(1, 999983), Fraction(1)):
            back, forth = number(1 - turn), number(1 + turn)
            laying = ((forth, back), ((1, 1),) * 3, (back, forth), (forth, back))
            self.assertIs(is_level(web, laying), True)
            self.assertEqual(heights(web, laying), level_heights(web))


def all_layings(web, bottom):
    """All layings of a web whose amounts are so many parts of 1."""
    ways = []
    for places, heavy in web[1]:
        cuts = product(range(heavy * bottom + 1), repeat=len(places))
        ways.append([
            tuple(number(Fraction(one, bottom)) for one in cut) for cut in cuts if sum(cut) == heavy * bottom
        ])
    return product(*ways)


class Refusals(unittest.TestCase):
    def told(self):
        return (loads(WEB, EVEN), heights(WEB, EVEN), is_level(WEB, EVEN), is_laying(WEB, EVEN), loads(WEB, LAYING))

    def test_no_web_ahead_of_all_else(self):
        ahead = self.told()
        for thing in odd_things() + [0, [WEB[0], WEB[1]], WEB[0], WEB[1], (WEB[0], WEB[1][::-1]), WEB + ((),)]:
            for laying in (LAYING, (), None, [], True, "laying", (object(),)):
                for ask in (is_laying, loads, heights, is_level):
                    check_refused(self, NoWeb, ask, thing, laying)
        self.assertEqual(self.told(), ahead)

    def test_then_what_is_no_laying(self):
        ahead = self.told()
        other = ((1, 1, 2), (((0,), 2), ((0, 1), 3), ((0, 1, 2), 2)))
        for ask in (loads, heights, is_level):
            for thing in odd_things() + [0, (), list(LAYING), LAYING[:2], LAYING + (LAYING[0],), LAYING[::-1]]:
                check_refused(self, NoLaying, ask, WEB, thing)
            for thing in changed(LAYING, (None, True, [], (0, 2))):
                if not plain_laying(WEB, thing):
                    check_refused(self, NoLaying, ask, WEB, thing)
            check_refused(self, NoLaying, ask, other, LAYING)
            check_refused(self, NoLaying, ask, BARE, LAYING)
        self.assertEqual(self.told(), ahead)

    def test_nothing_handed_in_is_changed(self):
        web = great_web(random.Random(11))
        laying = some_laying(random.Random(12), web)
        odd = [[[[1, 1]]], [LAYING], {"a": [1]}]
        kept = copy.deepcopy((web, laying, odd))
        self.assertTrue(is_laying(web, laying))
        for ask in (loads, heights, is_level):
            first = ask(web, laying)
            for thing in odd:
                check_refused(self, NoLaying, ask, web, thing)
                check_refused(self, NoWeb, ask, thing, laying)
            self.assertEqual(ask(web, laying), first)
        self.assertEqual((web, laying, odd), kept)

    def test_kinds_of_what_is_told(self):
        for ask in (loads, heights):
            told = ask(WEB, LAYING)
            self.assertIs(type(told), tuple)
            for one in told:
                self.assertEqual((type(one), type(one[0]), type(one[1])), (tuple, int, int))


if __name__ == "__main__":
    unittest.main()
