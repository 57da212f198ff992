import random
import unittest
from fractions import Fraction

from tests.helper import (
    check_refused, check_steady, great_web, great_webs, lines_run, odd_things, plain_cores, several_webs, tiny_webs,
)
from weblayers.cores import core_part, cores
from weblayers.errors import NoPart, NoWeb
from weblayers.layers import level_heights
from weblayers.webs import degree

WEB = ((1, 1, 2), (((0,), 2), ((0, 1), 3), ((0, 1, 2), 1)))


class Cores(unittest.TestCase):
    def check(self, web):
        told, shown = plain_cores(web)
        self.assertEqual(cores(web), told)
        self.assertEqual([core_part(web, place) for place in range(len(web[0]))], shown)
        self.check_together(web)

    def check_together(self, web):
        """What holds of cores whatever they are."""
        told = cores(web)
        most_places = max([len(tie[0]) for tie in web[1]], default=1)
        self.assertEqual(len(told), len(web[0]))
        for place, height in enumerate(level_heights(web)):
            core = Fraction(*told[place])
            self.assertTrue(Fraction(*height) <= core <= most_places * Fraction(*height))
            part = core_part(web, place)
            self.assertIn(place, part)
            for other in part:
                self.assertGreaterEqual(degree(web, part, other), core * web[0][other])

    def test_by_hand(self):
        for web, told, shown in (
            (((7,), ()), ((0, 1),), ((0,),)),
            (((7,), (((0,), 14),)), ((2, 1),), ((0,),)),
            (((1, 5, 2), ()), ((0, 1),) * 3, ((0, 1, 2),) * 3),
            (WEB, ((3, 1), (3, 1), (1, 2)), ((0, 1), (0, 1), (0, 1, 2))),
            # Place 0 is taken off behind place 1, at less, but its core isn't less.
            (((1, 1), (((0,), 1), ((0, 1), 3))), ((3, 1), (3, 1)), ((0, 1), (0, 1))),
            (((1, 2), (((0, 1), 6),)), ((3, 1), (3, 1)), ((0, 1), (0, 1))),
            (((1, 1, 1), (((0, 1), 1), ((0, 2), 1), ((1, 2), 1))), ((2, 1),) * 3, ((0, 1, 2),) * 3),
            (
                ((1, 1, 1, 1), (((0, 1), 1), ((0, 2), 1), ((1, 2), 1), ((2, 3), 1))),
                ((2, 1), (2, 1), (2, 1), (1, 1)), ((0, 1, 2), (0, 1, 2), (0, 1, 2), (0, 1, 2, 3)),
            ),
            # Two parts that have nothing in common are one, where their numbers are the same.
            (
                ((1, 1, 2, 1), (((0, 1), 2), ((2,), 4))),
                ((2, 1), (2, 1), (2, 1), (0, 1)), ((0, 1, 2), (0, 1, 2), (0, 1, 2), (0, 1, 2, 3)),
            ),
            (
                ((1, 1, 1), (((0,), 5), ((1,), 2), ((2,), 3))),
                ((5, 1), (2, 1), (3, 1)), ((0,), (0, 1, 2), (0, 2)),
            ),
        ):
            self.assertEqual(cores(web), told)
            self.assertEqual(tuple(core_part(web, place) for place in range(len(web[0]))), shown)
            self.check(web)

    def test_all_tiny_webs(self):
        for web in tiny_webs():
            self.check(web)

    def test_small_webs(self):
        for web in several_webs():
            self.check(web)

    def test_great_webs(self):
        for at, web in enumerate(great_webs()):
            if at % 4:
                self.check_together(web)
            else:
                self.check(web)

    def test_asked_often(self):
        chance = random.Random(70)
        for turn in range(100):
            self.check_together(great_web(chance))

    def test_parts_are_not_tried_one_by_one(self):
        for web in great_webs():
            self.assertLess(lines_run(cores, web), 10000)
            self.assertLess(lines_run(core_part, web, 5), 10000)

    def test_told_the_same_each_time_and_nothing_is_changed(self):
        for web in (((1,), ()), WEB, great_web(random.Random(71))):
            check_steady(self, cores, web)
            for place in range(len(web[0])):
                check_steady(self, core_part, web, place)


class Refusals(unittest.TestCase):
    def test_no_web_ahead_of_all_else(self):
        for thing in odd_things() + [0, list(WEB), WEB[0], WEB[1], (WEB[0], WEB[1][::-1])]:
            check_refused(self, NoWeb, cores, thing)
            for place in (0, 9, None, True, [], (0,)):
                check_refused(self, NoWeb, core_part, thing, place)

    def test_then_what_is_no_place(self):
        ahead = [core_part(WEB, place) for place in range(3)]
        for thing in odd_things() + [3, 12, -3, (0,), (1,), [0], "0"]:
            check_refused(self, NoPart, core_part, WEB, thing)
        self.assertEqual([core_part(WEB, place) for place in range(3)], ahead)


if __name__ == "__main__":
    unittest.main()
