import random
import unittest
from fractions import Fraction

from tests.helper import AllParts, check_steady, great_web, great_webs, number, several_webs, tiny_webs
from weblayers.densest import densest
from weblayers.strips import stripped
from weblayers.webs import share


def plain_stripped(web):
    """Stripping, written a second time."""
    parts = AllParts(web)
    left = parts.whole
    order, shares = [], []
    while left:
        shares.append((Fraction(parts.weights[left], parts.costs[left]), left))
        # A place's degree is the weight that goes with it.
        by_cost = [
            (Fraction(parts.weights[left] - parts.weights[left ^ 1 << place], web[0][place]), place)
            for place in parts.part(left)
        ]
        least, place = min(by_cost)
        order.append((place, number(least)))
        left ^= 1 << place
    most = max(one for one, bits in shares)
    return (tuple(order), parts.part([bits for one, bits in shares if one == most][0]))


def most_places(web):
    return max([len(tie[0]) for tie in web[1]], default=1)


class Strips(unittest.TestCase):
    def check(self, web):
        told = stripped(web)
        self.assertEqual(told, plain_stripped(web))
        self.check_bounds(web, told)

    def check_bounds(self, web, told):
        order, part = told
        self.assertEqual(sorted(place for place, one in order), list(range(len(web[0]))))
        low = Fraction(*share(web, part))
        most = Fraction(*share(web, densest(web)))
        high = max(Fraction(*one) for place, one in order)
        self.assertTrue(low <= most <= high <= most_places(web) * low)

    def test_by_hand(self):
        for web, order, part in (
            (((7,), ()), ((0, (0, 1)),), (0,)),
            (((7,), (((0,), 14),)), ((0, (2, 1)),), (0,)),
            (
                ((1, 1, 2), (((0,), 2), ((0, 1), 3), ((0, 1, 2), 1))),
                ((2, (1, 2)), (1, (3, 1)), (0, (2, 1))), (0, 1),
            ),
            # The least place of those whose number is least.
            (((1, 1), (((0, 1), 1),)), ((0, (1, 1)), (1, (0, 1))), (0, 1)),
            (((2, 2, 1), (((0, 2), 2), ((1, 2), 2))), ((0, (1, 1)), (1, (1, 1)), (2, (0, 1))), (0, 1, 2)),
            (((1, 2, 4), (((0,), 1), ((1,), 2), ((2,), 4))), ((0, (1, 1)), (1, (1, 1)), (2, (1, 1))), (0, 1, 2)),
            # Of parts with the same share the first that was left.
            (((1, 1), (((0,), 1), ((1,), 1))), ((0, (1, 1)), (1, (1, 1))), (0, 1)),
            (((1, 1, 1), (((1,), 1), ((2,), 1))), ((0, (0, 1)), (1, (1, 1)), (2, (1, 1))), (1, 2)),
            # Stripping doesn't find the densest part, (2,).
            (
                ((1, 1, 2), (((0, 1), 2), ((2,), 3))),
                ((2, (3, 2)), (0, (2, 1)), (1, (0, 1))), (0, 1, 2),
            ),
            # The last place is left alone, and densest.
            (((1, 1), (((0,), 1), ((0, 1), 1), ((1,), 9))), ((0, (2, 1)), (1, (9, 1))), (1,)),
        ):
            self.assertEqual(stripped(web), (order, part))
            self.check(web)

    def test_a_web_without_ties(self):
        for many in range(1, 13):
            web = (tuple(range(many, 0, -1)), ())
            self.assertEqual(stripped(web), (tuple((place, (0, 1)) for place in range(many)), tuple(range(many))))
            self.check(web)

    def test_all_tiny_webs(self):
        for web in tiny_webs():
            self.check(web)

    def test_small_webs(self):
        for web in several_webs():
            self.check(web)

    def test_great_webs(self):
        for web in great_webs():
            self.check(web)

    def test_asked_often(self):
        chance = random.Random(60)
        for turn in range(150):
            web = great_web(chance)
            self.check_bounds(web, stripped(web))

    def test_told_the_same_each_time_and_nothing_is_changed(self):
        for web in (((1,), ()), ((1, 1, 2), (((0, 1), 2), ((2,), 3))), great_web(random.Random(61))):
            check_steady(self, stripped, web)


if __name__ == "__main__":
    unittest.main()
