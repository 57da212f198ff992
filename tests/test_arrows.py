import random
import unittest
from fractions import Fraction
from itertools import product

from tests.helper import (
    PAIRS, all_parts, changed, check_refused, check_steady, great_arrows, lines_run, most_square_share, number, odd_things,
    plain_arrows, plain_places, plain_split, some_arrows,
)
from weblayers.arrows import flow, is_arrows, splits, square_share, thickest_flow
from weblayers.errors import NoArrows, NoPart

ARROWS = (3, ((0, 0, 1), (0, 1, 4), (0, 2, 4), (1, 2, 5), (2, 0, 7)))


class WhatArrowsAre(unittest.TestCase):
    def good(self, thing):
        self.assertIs(is_arrows(thing), True)

    def none(self, thing):
        self.assertIs(is_arrows(thing), False)

    def test_places(self):
        for many in (-1, 0, 1, 2, 3, 4, 5, 6, 7, 12):
            self.assertIs(is_arrows((many, ())), many in range(1, 7))
        for many in (True, None, "1", (1,), (1, 1), [1], Fraction(1)):
            self.none((many, ()))

    def test_ways(self):
        self.good(ARROWS)
        for many in (0, 1, 19, 20):
            self.good((6, tuple((start, goal, 1) for start, goal in PAIRS[:many])))
        self.none((6, tuple((start, goal, 1) for start, goal in PAIRS[:21])))
        for ways in (None, [], {}, "", 0, list(ARROWS[1]), (0, 1, 4), ((),), (None,), ("abc",), ([0, 1, 4],)):
            self.none((3, ways))

    def test_places_of_ways(self):
        for start, goal in product((-1, 0, 1, 2, 3), repeat=2):
            self.assertIs(is_arrows((3, ((start, goal, 1),))), start in range(3) and goal in range(3))
        for one in (True, False, None, "0", (0,), [0]):
            self.none((3, ((one, 1, 1),)))
            self.none((3, ((1, one, 1),)))

    def test_weights(self):
        for heavy, told in ((0, False), (1, True), (10 ** 6, True), (10 ** 6 + 1, False), (-1, False)):
            self.assertIs(is_arrows((2, ((0, 1, heavy),))), told)
        for heavy in (True, None, "1", (1,), (1, 1), [1], Fraction(3)):
            self.none((2, ((0, 1, heavy),)))

    def test_ways_rise_and_the_same_two_come_once(self):
        self.good((2, ((0, 0, 9), (0, 1, 5), (1, 0, 3), (1, 1, 1))))
        self.none((2, ((0, 1, 1), (0, 0, 1))))
        self.none((2, ((1, 0, 1), (0, 1, 1))))
        self.none((2, ((0, 1, 1), (0, 1, 2))))
        self.none((2, ((0, 1, 2), (0, 1, 2))))
        self.none((2, ((0, 0, 1), (0, 1, 1), (0, 1, 7), (1, 1, 1))))

    def test_things_of_any_kind(self):
        for thing in odd_things() + [0, 1, (), (1,), ARROWS[1], list(ARROWS), ARROWS + ((),), "1", (1, (), ()), ((1,), ())]:
            self.none(thing)

    def test_things_of_any_kind_at_every_depth(self):
        for arrows in (ARROWS, (1, ()), (2, ((0, 1, 3),))):
            for thing in changed(arrows, odd_things()):
                self.assertIs(is_arrows(thing), plain_arrows(thing))


class Flows(unittest.TestCase):
    def test_by_hand(self):
        for ones, others, flows, told in (
            ((0,), (0,), 1, (1, 1)), ((0,), (1,), 4, (16, 1)), ((1,), (0,), 0, (0, 1)), ((0,), (1, 2), 8, (32, 1)),
            ((0, 1), (1, 2), 13, (169, 4)), ((0, 1), (2,), 9, (81, 2)), ((0, 1, 2), (0, 1, 2), 21, (49, 1)),
            ((2,), (0, 1), 7, (49, 2)), ((1, 2), (1, 2), 5, (25, 4)), ((0, 2), (0,), 8, (32, 1)),
            ((0, 1, 2), (0, 2), 17, (289, 6)), ((0, 1, 2), (1,), 4, (16, 3)),
        ):
            self.assertEqual(flow(ARROWS, ones, others), flows)
            self.assertEqual(square_share(ARROWS, ones, others), told)

    def test_all_sets(self):
        chance = random.Random(100)
        for turn in range(12):
            arrows = some_arrows(chance, 4)
            for ones in all_parts(4):
                for others in all_parts(4):
                    flows = sum(heavy for start, goal, heavy in arrows[1] if {start} <= set(ones) and {goal} <= set(others))
                    self.assertEqual(flow(arrows, ones, others), flows)
                    told = number(Fraction(flows ** 2, len(ones) * len(others)))
                    self.assertEqual(square_share(arrows, ones, others), told)

    def test_the_greatest_arrows(self):
        arrows = (6, tuple((start, goal, 10 ** 6) for start, goal in PAIRS[:20]))
        whole = tuple(range(6))
        self.assertEqual(flow(arrows, whole, whole), 20 * 10 ** 6)
        self.assertEqual(square_share(arrows, whole, whole), (10 ** 14, 9))
        self.assertEqual(square_share(arrows, (0, 1, 2), whole), (18 * 10 ** 12, 1))
        self.assertEqual(thickest_flow(arrows), ((0, 1, 2), whole))


class Thickest(unittest.TestCase):
    def check(self, arrows):
        many = arrows[0]
        ones, others = told = thickest_flow(arrows)
        self.assertIs(type(told), tuple)
        self.assertTrue(plain_places(ones, many))
        self.assertTrue(plain_places(others, many))
        most = most_square_share(arrows)
        self.assertEqual(square_share(arrows, ones, others), number(most))
        self.check_splits(arrows, most)

    def check_splits(self, arrows, most):
        many, ways = arrows
        told = splits(arrows)
        self.assertEqual((type(told), len(told)), (tuple, many))
        for s in range(1, many + 1):
            self.assertEqual((type(told[s - 1]), len(told[s - 1])), (tuple, many))
            for t in range(1, many + 1):
                split = told[s - 1][t - 1]
                self.assertTrue(plain_split(arrows, split))
                begins, ends = [Fraction(0)] * many, [Fraction(0)] * many
                for (start, goal, heavy), (one, other) in zip(ways, split):
                    begins[start] += Fraction(*one)
                    ends[goal] += Fraction(*other)
                self.assertLessEqual((s * max(begins) + t * max(ends)) ** 2, most * s * t)

    def test_by_hand(self):
        for arrows, told in (
            ((1, ((0, 0, 5),)), ((0,), (0,))),
            ((2, ((0, 1, 5),)), ((0,), (1,))),
            ((2, ((1, 0, 5),)), ((1,), (0,))),
            ((3, ((0, 1, 5), (0, 2, 4))), ((0,), (1, 2))),
            ((3, ((0, 1, 5), (0, 2, 2))), ((0,), (1,))),
            ((3, ((1, 0, 5), (2, 0, 4))), ((1, 2), (0,))),
            ((3, ((0, 0, 1), (0, 1, 1), (1, 0, 1), (1, 1, 1), (2, 2, 1))), ((0, 1), (0, 1))),
            # 3 to 1: flow 30, square share 300; one more makes 34, 289.
            ((4, ((0, 3, 10), (1, 3, 10), (2, 3, 10), (3, 3, 4))), ((0, 1, 2), (3,))),
        ):
            self.assertEqual(thickest_flow(arrows), told)
            self.check(arrows)

    def test_without_ways(self):
        for many in range(1, 7):
            arrows = (many, ())
            self.check(arrows)
            self.assertEqual(splits(arrows), (((),) * many,) * many)

    def test_splits_by_hand(self):
        # From one place to both of two flow 4, so A + 2 * B is at most 4: just where both ways are split alike.
        arrows = (2, ((0, 0, 2), (0, 1, 2)))
        one, other = splits(arrows)[0][1]
        self.assertEqual(one, other)
        # From one place to one flow 2 at most, so with s and t both 1 less than 4 squared by 2 is to be shown.
        one, other = splits(arrows)[0][0]
        most = Fraction(*one[0]) + Fraction(*other[0]) + max(Fraction(*one[1]), Fraction(*other[1]))
        self.assertLessEqual(most ** 2, 8)
        self.check(arrows)

    def test_all_arrows_of_two_places(self):
        for weights in product((0, 1, 2, 5), repeat=4):
            ways = [(start, goal, heavy) for (start, goal), heavy in zip(product(range(2), repeat=2), weights) if heavy]
            self.check((2, tuple(ways)))

    def test_small_arrows(self):
        chance = random.Random(101)
        for turn in range(60):
            self.check(some_arrows(chance, chance.randint(1, 5), most_weight=(1, 3, 10 ** 6)[turn % 3]))

    def test_great_arrows(self):
        chance = random.Random(102)
        for turn in range(15):
            self.check(great_arrows(chance, (1, 4, 10 ** 6)[turn % 3]))

    def test_flows_of_every_two_sizes(self):
        # All ways between so many and so many others are thickest where their weights are alike.
        for s in range(1, 7):
            for t in range(1, 7):
                ways = [(start, goal, 10 ** 6) for start in range(s) for goal in range(6 - t, 6)]
                if len(ways) <= 20:
                    arrows = (6, tuple(ways))
                    self.assertEqual(thickest_flow(arrows), (tuple(range(s)), tuple(range(6 - t, 6))))
                    self.check_splits(arrows, Fraction(10 ** 12 * s * t))

    def test_asked_often(self):
        chance = random.Random(103)
        for turn in range(60):
            arrows = great_arrows(chance)
            most = Fraction(*square_share(arrows, *thickest_flow(arrows)))
            # A split for all s and t shows that nothing is thicker.
            self.check_splits(arrows, most)

    def test_great_weights_are_not_laid_unit_by_unit(self):
        chance = random.Random(104)
        for turn in range(5):
            many, few = great_arrows(chance, 9)
            great = (many, tuple((start, goal, heavy * 100000) for start, goal, heavy in few))
            for ask in (thickest_flow, splits):
                self.assertLess(lines_run(ask, great), lines_run(ask, (many, few)) * 1.2)

    def test_told_the_same_each_time_and_nothing_is_changed(self):
        for arrows in (ARROWS, (2, ()), great_arrows(random.Random(105))):
            check_steady(self, thickest_flow, arrows)
            check_steady(self, splits, arrows)
            check_steady(self, flow, arrows, (0,), (0, 1))
            check_steady(self, square_share, arrows, (0,), (0, 1))


class Refusals(unittest.TestCase):
    def told(self):
        return [flow(ARROWS, (0,), (1,)), square_share(ARROWS, (0,), (1,)), thickest_flow(ARROWS), splits(ARROWS)]

    def test_no_arrows_ahead_of_all_else(self):
        ahead = self.told()
        bad = odd_things() + [0, list(ARROWS), ARROWS[1], (0, ()), (7, ()), (3, ARROWS[1][::-1]), ((1, 1, 1), ())]
        bad += [thing for thing in changed(ARROWS, (None, True, [])) if not plain_arrows(thing)]
        for thing in bad:
            check_refused(self, NoArrows, thickest_flow, thing)
            check_refused(self, NoArrows, splits, thing)
            for ones, others in (((0,), (0,)), (None, (0,)), ((0,), ()), ([], True)):
                check_refused(self, NoArrows, flow, thing, ones, others)
                check_refused(self, NoArrows, square_share, thing, ones, others)
        self.assertEqual(self.told(), ahead)

    def test_then_what_is_no_set_of_places(self):
        ahead = self.told()
        for thing in odd_things() + [0, (), (3,), (0, 3), (-1,), (0, 0), (1, 0), (True,), (0, True), [0], [0, 1], "0"]:
            for other in ((0,), (0, 1, 2), (), None):
                for ask in (flow, square_share):
                    check_refused(self, NoPart, ask, ARROWS, thing, other)
                    check_refused(self, NoPart, ask, ARROWS, other, thing)
        for thing in changed((0, 2), (None, True, [], 1)):
            if not plain_places(thing, 3):
                check_refused(self, NoPart, flow, ARROWS, thing, (0,))
                check_refused(self, NoPart, square_share, ARROWS, (0,), thing)
        self.assertEqual(self.told(), ahead)


if __name__ == "__main__":
    unittest.main()
