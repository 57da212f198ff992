import random
import unittest
from fractions import Fraction

from tests.helper import (
    AllParts, all_parts, changed, check_refused, check_steady, great_web, great_webs, lines_run, odd_things, plain_heights,
    plain_places, plain_with, several_webs, some_web, tiny_webs,
)
from weblayers.densest import densest
from weblayers.errors import NoPart, NoWeb
from weblayers.layings import is_laying
from weblayers.musts import bearing_with, densest_with
from weblayers.webs import share

WEB = ((1, 1, 2), (((0, 1), 3), ((2,), 1)))


class Musts(unittest.TestCase):
    def check(self, web, parts, musts):
        most, part = plain_with(parts, musts)
        self.assertEqual(densest_with(web, musts), part)
        self.check_bearing(web, musts, most)

    def check_bearing(self, web, musts, most):
        laying = bearing_with(web, musts)
        self.assertTrue(is_laying(web, laying))
        above = [(high - most) * price for high, price in zip(plain_heights(web, laying), web[0])]
        beside = sum(max(one, 0) for place, one in enumerate(above) if place not in musts)
        # At most so much is promised, and less it can't be where a part with the musts has this share.
        self.assertEqual(beside, -sum(above[place] for place in musts))

    def check_all(self, web):
        parts = AllParts(web)
        for musts in [()] + all_parts(len(web[0])):
            self.check(web, parts, musts)

    def test_by_hand(self):
        for web, musts, part in (
            (((7,), ()), (), (0,)),
            (((7,), ()), (0,), (0,)),
            (WEB, (), (0, 1)),
            (WEB, (0,), (0, 1)),
            (WEB, (1,), (0, 1)),
            (WEB, (0, 1), (0, 1)),
            (WEB, (2,), (0, 1, 2)),
            (WEB, (0, 2), (0, 1, 2)),
            (WEB, (0, 1, 2), (0, 1, 2)),
            # The greatest of those with the same share.
            (((1, 1), (((0,), 1), ((1,), 1))), (0,), (0, 1)),
            (((1, 1, 1), (((0,), 1), ((1,), 1), ((2,), 2))), (0,), (0, 2)),
            (((1, 1, 1), (((0,), 1), ((1,), 3), ((2,), 5))), (0,), (0, 1, 2)),
            (((1, 1, 1), (((0,), 1), ((1,), 2), ((2,), 5))), (0,), (0, 2)),
            (((2, 1, 1), (((1,), 4), ((2,), 1))), (0,), (0, 1)),
            (((2, 1, 1), (((1,), 5), ((2,), 2))), (0, 2), (0, 1, 2)),
            # A must that nothing ties draws in what is densest.
            (((1, 1, 1, 1), (((0, 1), 6),)), (3,), (0, 1, 3)),
            (((5, 1, 7), ()), (1,), (0, 1, 2)),
            # Ties between a must and others count for the others.
            (((1, 1, 1), (((0, 1), 1), ((0, 2), 4))), (0,), (0, 2)),
            (((1, 1, 1), (((0, 1), 2), ((0, 2), 4))), (0,), (0, 1, 2)),
        ):
            self.assertEqual(densest_with(web, musts), part)
            self.check(web, AllParts(web), musts)

    def test_without_musts_it_is_the_densest_part(self):
        for web in several_webs():
            self.assertEqual(densest_with(web, ()), densest(web))

    def test_all_places_are_musts(self):
        for web in great_webs():
            self.assertEqual(densest_with(web, tuple(range(12))), tuple(range(12)))

    def test_tiny_webs(self):
        for at, web in enumerate(tiny_webs()):
            if at % 3 == 0:
                self.check_all(web)

    def test_small_webs(self):
        for at, web in enumerate(several_webs()):
            if at % 3 == 0 or len(web[0]) < 4:
                self.check_all(web)

    def test_seven_places(self):
        chance = random.Random(80)
        for turn in range(12):
            self.check_all(some_web(chance, 7, 14, most_cost=(1, 9, 100)[turn % 3], most_weight=(3, 10 ** 6)[turn % 2]))

    def test_great_webs(self):
        chance = random.Random(81)
        for web in great_webs():
            parts = AllParts(web)
            for many in (1, 3, 8):
                self.check(web, parts, tuple(sorted(chance.sample(range(12), many))))

    def test_asked_often(self):
        chance = random.Random(82)
        for turn in range(150):
            web = great_web(chance)
            musts = tuple(sorted(chance.sample(range(12), chance.randint(0, 12))))
            part = densest_with(web, musts)
            self.assertLessEqual(set(musts), set(part))
            # No part with the musts has a greater share than a laying shows.
            self.check_bearing(web, musts, Fraction(*share(web, part)))

    def test_parts_are_not_tried_one_by_one(self):
        # A web of twelve places has 2048 parts with one place in, and thirty ties to look at for each.
        for web in great_webs():
            for musts in ((), (0,), (11,), (0, 5, 7), (3, 4)):
                self.assertLess(lines_run(densest_with, web, musts), 60000)
                self.assertLess(lines_run(bearing_with, web, musts), 60000)

    def test_great_weights_are_not_laid_unit_by_unit(self):
        for web in great_webs():
            few = (web[0], tuple((places, at + 1) for at, (places, heavy) in enumerate(web[1])))
            many = (web[0], tuple((places, (at + 1) * 30000) for at, (places, heavy) in enumerate(web[1])))
            for ask in (densest_with, bearing_with):
                self.assertLess(lines_run(ask, many, (0, 6)), lines_run(ask, few, (0, 6)) + 5000)

    def test_told_the_same_each_time_and_nothing_is_changed(self):
        for web, musts in ((WEB, ()), (WEB, (2,)), (great_web(random.Random(83)), (1, 4, 11))):
            check_steady(self, densest_with, web, musts)
            check_steady(self, bearing_with, web, musts)


class Refusals(unittest.TestCase):
    def told(self):
        return [ask(WEB, musts) for ask in (densest_with, bearing_with) for musts in ((), (0,), (0, 2))]

    def test_no_web_ahead_of_all_else(self):
        for thing in odd_things() + [0, list(WEB), WEB[0], WEB[1], (WEB[0], WEB[1][::-1])]:
            for musts in ((), (0,), (9,), None, [], True):
                check_refused(self, NoWeb, densest_with, thing, musts)
                check_refused(self, NoWeb, bearing_with, thing, musts)

    def test_then_what_is_no_part(self):
        ahead = self.told()
        bad = odd_things() + [0, (3,), (0, 3), (-1,), (0, 0), (1, 0), (True,), (0, True), [0], [], "", {}, ((),), None]
        bad += [thing for thing in changed((0, 2), (None, True, [], (0,), 1)) if not plain_places(thing, 3) and thing != ()]
        for thing in bad:
            check_refused(self, NoPart, densest_with, WEB, thing)
            check_refused(self, NoPart, bearing_with, WEB, thing)
        self.assertEqual(self.told(), ahead)


if __name__ == "__main__":
    unittest.main()
