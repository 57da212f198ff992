import random
import unittest
from fractions import Fraction

from tests.helper import AllParts, great_web, great_webs, number, several_webs, tiny_webs
from weblayers.densest import bearing, densest, least_densest
from weblayers.layings import heights, is_laying
from weblayers.webs import share


class Densest(unittest.TestCase):
    def check(self, web):
        parts = AllParts(web)
        most, sets = parts.best()
        part = densest(web)
        self.assertEqual(part, parts.densest())
        self.assertEqual(share(web, part), most)
        least = least_densest(web)
        self.assertEqual(least, parts.least_densest())
        self.assertEqual(list(least), sorted(least))
        together = [place for one in least for place in one]
        self.assertEqual(len(together), len(set(together)))
        self.assertLessEqual(set(together), set(part))
        self.check_bearing(web, most)

    def check_bearing(self, web, most):
        laying = bearing(web)
        self.assertTrue(is_laying(web, laying))
        for one in heights(web, laying):
            self.assertLessEqual(Fraction(*one), Fraction(*most))

    def test_by_hand(self):
        for web, greatest, least in (
            (((1,), ()), (0,), ((0,),)),
            (((1, 1, 2), (((0, 1), 3), ((2,), 1))), (0, 1), ((0, 1),)),
            (((1, 1, 2), (((0, 1), 1), ((2,), 1))), (0, 1, 2), ((0, 1), (2,))),
            (((1, 1, 1), (((0,), 1), ((0, 1), 1), ((1, 2), 1))), (0, 1, 2), ((0,),)),
            (((1, 1, 1), (((0, 1), 1), ((0, 2), 1), ((1, 2), 1))), (0, 1, 2), ((0, 1, 2),)),
            (((1, 1, 1, 1), (((0, 1, 2, 3), 4), ((1,), 1), ((3,), 1))), (0, 1, 2, 3), ((0, 1, 2, 3),)),
            (((1, 1, 1, 1), (((0, 1, 2, 3), 2), ((1,), 1), ((3,), 1))), (0, 1, 2, 3), ((1,), (3,))),
            (((10, 1), (((0,), 10), ((1,), 2))), (1,), ((1,),)),
            (((10, 1), (((0,), 20), ((1,), 2))), (0, 1), ((0,), (1,))),
            (((1,) * 6, (((0, 5), 1), ((1, 4), 1), ((2, 3), 1))), (0, 1, 2, 3, 4, 5), ((0, 5), (1, 4), (2, 3))),
        ):
            self.assertEqual(densest(web), greatest)
            self.assertEqual(least_densest(web), least)
            self.check(web)

    def test_a_web_without_ties(self):
        for many in range(1, 13):
            web = (tuple(range(1, many + 1)), ())
            self.assertEqual(densest(web), tuple(range(many)))
            self.assertEqual(least_densest(web), tuple((place,) for place in range(many)))
            self.assertEqual(bearing(web), ())

    def test_all_tiny_webs(self):
        for web in tiny_webs():
            self.check(web)

    def test_small_webs(self):
        for web in several_webs():
            self.check(web)

    def test_great_webs(self):
        for web in great_webs():
            self.check(web)

    def test_many_least_ones_in_a_great_web(self):
        # Two by two alike, and one tie over four of them that is no densest part by itself.
        pairs = [((at, at + 6), 10 ** 6) for at in range(6)]
        web = ((50,) * 12, tuple(sorted(pairs)))
        self.assertEqual(densest(web), tuple(range(12)))
        self.assertEqual(least_densest(web), tuple((at, at + 6) for at in range(6)))
        web = ((50,) * 12, tuple(sorted(pairs + [((0, 1, 2, 3), 1)])))
        self.assertEqual(densest(web), (0, 1, 2, 3, 6, 7, 8, 9))
        self.assertEqual(least_densest(web), ((0, 1, 2, 3, 6, 7, 8, 9),))
        self.check(web)

    def test_asked_often(self):
        chance = random.Random(30)
        for turn in range(150):
            web = great_web(chance)
            most = share(web, densest(web))
            whole = number(Fraction(sum(tie[1] for tie in web[1]), sum(web[0])))
            self.assertGreaterEqual(Fraction(*most), Fraction(*whole))
            for part in least_densest(web):
                self.assertEqual(share(web, part), most)
            # No part has a greater share than the greatest height of a laying.
            self.check_bearing(web, most)


if __name__ == "__main__":
    unittest.main()
