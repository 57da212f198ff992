import random
import unittest
from fractions import Fraction
from itertools import combinations

from tests.helper import (
    AllParts, all_parts, check_refused, check_steady, great_web, great_webs, number, odd_things, plain_heaviest,
    several_webs, some_web, tiny_webs,
)
from weblayers.densest import densest, least_densest
from weblayers.errors import NoSize, NoWeb
from weblayers.layers import layers, level_heights
from weblayers.sizes import bound, densest_sized, heaviest
from weblayers.webs import share

# Level heights 5/2, 5/2, 1/2.
WEB = ((1, 1, 2), (((0,), 2), ((0, 1), 3), ((0, 1, 2), 1)))


def plain_sized(parts, least, most):
    top, chosen = Fraction(-1), []
    for bits in range(1, parts.whole + 1):
        if least <= bin(bits).count("1") <= most:
            dense = Fraction(parts.weights[bits], parts.costs[bits])
            if dense > top:
                top, chosen = dense, []
            if dense == top:
                chosen.append(parts.part(bits))
    return (number(top), tuple(sorted(chosen)))


def plain_bound(web, size):
    loads = sorted(Fraction(*high) * price for high, price in zip(level_heights(web), web[0]))
    return number(sum(loads[-size:]))


class Sizes(unittest.TestCase):
    def check(self, web, ranges):
        parts = AllParts(web)
        for size in range(1, len(web[0]) + 1):
            told = heaviest(web, size)
            self.assertEqual(told, plain_heaviest(parts, size))
            self.check_bound(web, size, told[0])
        for least, most in ranges:
            self.assertEqual(densest_sized(web, least, most), plain_sized(parts, least, most))

    def check_bound(self, web, size, heavy):
        told = bound(web, size)
        self.assertEqual(told, plain_bound(web, size))
        self.assertLessEqual(heavy, Fraction(*told))
        if len(set(web[0])) == 1 and size in first_layers(web):
            self.assertEqual(told, (heavy, 1))

    def check_all(self, web):
        sizes = range(1, len(web[0]) + 1)
        self.check(web, [(least, most) for least in sizes for most in sizes if least <= most])

    def test_heaviest_by_hand(self):
        for web, size, told in (
            (((7,), ()), 1, (0, ((0,),))),
            (((7,), (((0,), 9),)), 1, (9, ((0,),))),
            (WEB, 1, (2, ((0,),))),
            (WEB, 2, (5, ((0, 1),))),
            (WEB, 3, (6, ((0, 1, 2),))),
            (((1, 1, 1), ()), 1, (0, ((0,), (1,), (2,)))),
            (((1, 1, 1), ()), 2, (0, ((0, 1), (0, 2), (1, 2)))),
            (((1, 9, 4), (((0, 1), 3), ((0, 2), 2), ((2,), 1))), 2, (3, ((0, 1), (0, 2)))),
            (((1, 1, 1, 1), (((0, 1, 2, 3), 8), ((1,), 1), ((3,), 1))), 2, (2, ((1, 3),))),
            (((1, 1, 1, 1), (((0, 1, 2, 3), 8), ((1,), 1), ((3,), 1))), 3, (2, ((0, 1, 3), (1, 2, 3)))),
        ):
            self.assertEqual(heaviest(web, size), told)

    def test_bounds_by_hand(self):
        for web, size, told in (
            (((7,), ()), 1, (0, 1)),
            (((7,), (((0,), 9),)), 1, (9, 1)),
            (WEB, 1, (5, 2)),
            (WEB, 2, (5, 1)),
            (WEB, 3, (6, 1)),
            # Loads, not heights: place 1 is lower but bears more.
            (((1, 10), (((0,), 3), ((1,), 20))), 1, (20, 1)),
            (((1, 2), (((0, 1), 1),)), 1, (2, 3)),
            (((1, 1, 1), (((0, 1), 1), ((1, 2), 1))), 1, (2, 3)),
            (((1, 1, 1), (((0, 1), 1), ((1, 2), 1))), 2, (4, 3)),
            (((3, 3, 3), (((0, 1), 3), ((1, 2), 1))), 2, (3, 1)),
        ):
            self.assertEqual(bound(web, size), told)
            self.assertEqual(plain_bound(web, size), told)

    def test_densest_by_hand(self):
        for web, least, most, told in (
            (((7,), ()), 1, 1, ((0, 1), ((0,),))),
            (WEB, 1, 1, ((2, 1), ((0,),))),
            (WEB, 1, 2, ((5, 2), ((0, 1),))),
            (WEB, 2, 2, ((5, 2), ((0, 1),))),
            (WEB, 1, 3, ((5, 2), ((0, 1),))),
            (WEB, 3, 3, ((3, 2), ((0, 1, 2),))),
            # Rising as tuples are compared, not by how many places they have.
            (((1, 1, 1), ()), 1, 3, ((0, 1), ((0,), (0, 1), (0, 1, 2), (0, 2), (1,), (1, 2), (2,)))),
            (((1, 1, 1), ()), 1, 2, ((0, 1), ((0,), (0, 1), (0, 2), (1,), (1, 2), (2,)))),
            (((1, 1, 1), ()), 2, 3, ((0, 1), ((0, 1), (0, 1, 2), (0, 2), (1, 2)))),
            (((1, 2, 1), (((0,), 1), ((1,), 2), ((2,), 1))), 2, 2, ((1, 1), ((0, 1), (0, 2), (1, 2)))),
            (((1, 3, 1), (((0, 1), 6), ((0, 2), 3))), 2, 2, ((3, 2), ((0, 1), (0, 2)))),
            (((1, 3, 1), (((0, 1), 6), ((0, 2), 3))), 2, 3, ((9, 5), ((0, 1, 2),))),
        ):
            self.assertEqual(densest_sized(web, least, most), told)

    def test_tiny_webs(self):
        for web in tiny_webs():
            self.check_all(web)

    def test_small_webs(self):
        for web in several_webs():
            self.check_all(web)

    def test_costs_alike(self):
        chance = random.Random(90)
        equal = 0
        for turn in range(60):
            web = some_web(chance, chance.randint(2, 7), 10, most_cost=1, most_weight=5)
            web = ((chance.randint(1, 100),) * len(web[0]), web[1])
            self.check_all(web)
            equal += len(first_layers(web))
        self.assertGreater(equal, 80)

    def test_great_webs(self):
        for at, web in enumerate(great_webs()):
            self.check(web, ((1, 12), (6, 6), (3, 9))[at % 3:at % 3 + 1])

    def test_of_all_sizes_they_are_the_densest_parts(self):
        for web in several_webs():
            most, parts = densest_sized(web, 1, len(web[0]))
            self.assertEqual(most, share(web, densest(web)))
            self.assertIn(densest(web), parts)
            self.assertLessEqual(set(least_densest(web)), set(parts))

    def test_twelve_places_without_ties(self):
        web = ((100,) * 12, ())
        for size in (1, 6, 12):
            self.assertEqual(heaviest(web, size), (0, tuple(combinations(range(12), size))))
        self.assertEqual(densest_sized(web, 1, 12), ((0, 1), tuple(sorted(all_parts(12)))))

    def test_told_the_same_each_time_and_nothing_is_changed(self):
        for web, size in ((((1,), ()), 1), (WEB, 2), (great_web(random.Random(91)), 7)):
            check_steady(self, heaviest, web, size)
            check_steady(self, bound, web, size)
            check_steady(self, densest_sized, web, 1, size)


def first_layers(web):
    """How many places the first one, two and so on layers have together."""
    sizes = [len(part) for part, height in layers(web)]
    return [sum(sizes[:at + 1]) for at in range(len(sizes))]


class Refusals(unittest.TestCase):
    def told(self):
        return [heaviest(WEB, 2), bound(WEB, 2), densest_sized(WEB, 1, 2)]

    def test_no_web_ahead_of_all_else(self):
        for thing in odd_things() + [0, list(WEB), WEB[0], WEB[1], (WEB[0], WEB[1][::-1])]:
            for size in (1, 0, 99, None, True, []):
                check_refused(self, NoWeb, heaviest, thing, size)
                check_refused(self, NoWeb, bound, thing, size)
                check_refused(self, NoWeb, densest_sized, thing, size, 1)
                check_refused(self, NoWeb, densest_sized, thing, 1, size)

    def test_then_what_is_no_size(self):
        ahead = self.told()
        for thing in odd_things() + [0, 4, 12, 13, -1, (1,), [1], "1", Fraction(1)]:
            check_refused(self, NoSize, heaviest, WEB, thing)
            check_refused(self, NoSize, bound, WEB, thing)
            for other in (1, 3, 0, None):
                check_refused(self, NoSize, densest_sized, WEB, thing, other)
                check_refused(self, NoSize, densest_sized, WEB, other, thing)
        self.assertEqual(self.told(), ahead)

    def test_at_most_is_not_less_than_at_least(self):
        for least in (1, 2, 3):
            for most in (1, 2, 3):
                if most < least:
                    check_refused(self, NoSize, densest_sized, WEB, least, most)
                else:
                    densest_sized(WEB, least, most)

    def test_as_many_as_there_are(self):
        for many in range(1, 13):
            web = ((1,) * many, ())
            self.assertEqual(heaviest(web, many), (0, (tuple(range(many)),)))
            self.assertEqual(bound(web, many), (0, 1))
            self.assertEqual(densest_sized(web, many, many), ((0, 1), (tuple(range(many)),)))
            for size in (0, many + 1, True, False):
                check_refused(self, NoSize, heaviest, web, size)
                check_refused(self, NoSize, bound, web, size)
                check_refused(self, NoSize, densest_sized, web, size, many)
                check_refused(self, NoSize, densest_sized, web, 1, size)


if __name__ == "__main__":
    unittest.main()
