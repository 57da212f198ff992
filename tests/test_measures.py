import random
import unittest
from fractions import Fraction

from tests.helper import (
    changed, check_refused, check_steady, great_web, number, odd_things, plain_heights, plain_whole, several_webs,
    some_laying, some_measure,
)
from weblayers.errors import NoLaying, NoMeasure, NoWeb
from weblayers.layers import level_laying
from weblayers.measures import is_measure, worth

WEB = ((1, 1, 2), (((0,), 2), ((0, 1), 3), ((0, 1, 2), 1)))
# Heights 23/6, 11/6, 1/6, and 5/2, 5/2, 1/2.
LAYING = (((2, 1),), ((3, 2), (3, 2)), ((1, 3), (1, 3), (1, 3)))
EVEN = (((2, 1),), ((1, 2), (5, 2)), ((0, 1), (0, 1), (1, 1)))
BARE = ((4, 1), ())
ABOVE_1 = (("above", (1, 1), (1, 1)),)
BELOW_1 = (("below", (1, 1), (1, 1)),)


def plain_measure(thing):
    """What a measure is, written a second time."""
    if type(thing) is not tuple or len(thing) not in range(1, 7):
        return False
    for part in thing:
        if type(part) is not tuple or len(part) != 3 or type(part[0]) is not str or part[0] not in ("above", "below"):
            return False
        for one in part[1:]:
            if type(one) is not tuple or len(one) != 2 or not all(map(plain_whole, one)) or one[1] < 1:
                return False
            if number(Fraction(*one)) != one or one[0] < 0:
                return False
        if part[2] == (0, 1):
            return False
    return True


def plain_worth(measure, web, laying):
    worth_of = Fraction(0)
    for price, high in zip(web[0], plain_heights(web, laying)):
        for side, point, weight in measure:
            beyond = (high - Fraction(*point)) * (1 if side == "above" else -1)
            worth_of += price * Fraction(*weight) * max(beyond, 0)
    return number(worth_of)


class WhatAMeasureIs(unittest.TestCase):
    def good(self, thing):
        self.assertIs(is_measure(thing), True)

    def none(self, thing):
        self.assertIs(is_measure(thing), False)

    def test_one_to_six_parts(self):
        for many in range(9):
            self.assertIs(is_measure(ABOVE_1 * many), many in range(1, 7))
        self.good(ABOVE_1 + BELOW_1)

    def test_sides(self):
        for side in ("above", "below"):
            self.good(((side, (1, 2), (1, 2)),))
        for side in ("", "a", "abov", "above ", "Above", "ABOVE", "belo", "aboveb", b"above", None, 0, True, ("above",), ["above"]):
            self.none(((side, (1, 2), (1, 2)),))

    def test_points_from_0_on(self):
        for point, told in (((0, 1), True), ((1, 10 ** 6), True), ((10 ** 9, 1), True), ((-1, 1), False), ((-1, 9), False)):
            self.assertIs(is_measure((("below", point, (1, 1)),)), told)

    def test_weights_above_0(self):
        for heavy, told in (((0, 1), False), ((1, 10 ** 6), True), ((10 ** 9, 1), True), ((-1, 1), False), ((-1, 9), False)):
            self.assertIs(is_measure((("below", (1, 1), heavy),)), told)

    def test_what_is_no_number(self):
        for thing in (
            0, 1, True, None, "1", (1,), (1, 1, 1), (2, 2), (0, 2), (1, 0), (1, -1), (-1, -1), [1, 1], (True, 1),
            (1, True), ("1", 1), (1, None), ((1, 1), 1), Fraction(1), (),
        ):
            self.none((("above", thing, (1, 1)),))
            self.none((("above", (1, 1), thing),))

    def test_one_bad_part_among_good_ones(self):
        for at in range(6):
            for bad in (None, (), ("above",), ("above", (1, 1)), ("above", (1, 1), (1, 1), (1, 1)), ["above", (1, 1), (1, 1)]):
                parts = list(ABOVE_1 * 6)
                parts[at] = bad
                self.none(tuple(parts))

    def test_things_of_any_kind(self):
        for thing in odd_things() + [0, 1, (), list(ABOVE_1), ABOVE_1[0], (ABOVE_1,), "above", ("above",)]:
            self.none(thing)

    def test_things_of_any_kind_at_every_depth(self):
        for measure in (ABOVE_1, ABOVE_1 + (("below", (0, 1), (3, 7)),)):
            for thing in changed(measure, odd_things() + ["above", "below", (0, 1), (1, 2)]):
                self.assertIs(is_measure(thing), plain_measure(thing))


class Worth(unittest.TestCase):
    def test_by_hand(self):
        for measure, web, laying, told in (
            (ABOVE_1, WEB, LAYING, (11, 3)),
            (BELOW_1, WEB, LAYING, (5, 3)),
            (ABOVE_1 + BELOW_1, WEB, LAYING, (16, 3)),
            (ABOVE_1 * 6, WEB, LAYING, (22, 1)),
            ((("above", (0, 1), (2, 1)),), WEB, LAYING, (12, 1)),
            ((("below", (0, 1), (2, 1)),), WEB, LAYING, (0, 1)),
            ((("above", (2, 1), (3, 2)), ("below", (2, 1), (1, 2))), WEB, LAYING, (14, 3)),
            ((("above", (23, 6), (1, 1)),), WEB, LAYING, (0, 1)),
            ((("above", (4, 1), (1, 1)),), WEB, LAYING, (0, 1)),
            ((("above", (11, 3), (1, 1)),), WEB, LAYING, (1, 6)),
            ((("below", (1, 6), (1, 1)),), WEB, LAYING, (0, 1)),
            ((("below", (1, 3), (1, 1)),), WEB, LAYING, (1, 3)),
            (ABOVE_1, WEB, EVEN, (3, 1)),
            (BELOW_1, WEB, EVEN, (1, 1)),
            (ABOVE_1, BARE, (), (0, 1)),
            ((("below", (3, 1), (1, 2)),), BARE, (), (15, 2)),
            ((("above", (9999, 1), (1, 10 ** 6)),), ((100,), (((0,), 10 ** 6),)), (((10 ** 6, 1),),), (1, 10 ** 4)),
        ):
            self.assertEqual(worth(measure, web, laying), told)
            self.assertEqual(plain_worth(measure, web, laying), told)

    def test_many_layings_and_measures(self):
        chance = random.Random(40)
        for web in several_webs():
            laying = some_laying(chance, web)
            for turn in range(3):
                measure = some_measure(chance)
                self.assertEqual(worth(measure, web, laying), plain_worth(measure, web, laying))

    def test_none_has_less_worth_than_a_level_one(self):
        chance = random.Random(41)
        more = 0
        for web in several_webs():
            level = level_laying(web)
            heights = plain_heights(web, level)
            for turn in range(3):
                laying = some_laying(chance, web)
                point = number(chance.choice(heights + plain_heights(web, laying)))
                for measure in (some_measure(chance), (("above", point, (1, 3)),), (("below", point, (2, 1)),)):
                    least, other = Fraction(*worth(measure, web, level)), Fraction(*worth(measure, web, laying))
                    self.assertLessEqual(least, other)
                    more += least < other
        self.assertGreater(more, 500)

    def test_the_greatest_inputs(self):
        chance = random.Random(42)
        primes = (999983, 999979, 999961, 999959, 999953, 999931, 999917, 999907, 999883, 999863)
        for turn in range(3):
            web = great_web(chance)
            laying = some_laying(chance, web, primes)
            measure = tuple(
                (("above", "below")[at % 2], (10 ** 9 - at, prime), (10 ** 9, prime)) for at, prime in enumerate(primes[:6])
            )
            self.assertEqual(worth(measure, web, laying), plain_worth(measure, web, laying))
            check_steady(self, worth, measure, web, laying)
        web = ((100,) * 12, (((0, 1, 2, 3), 10 ** 6),))
        self.assertEqual(worth((("below", (10 ** 9, 1), (10 ** 9, 1)),) * 6, web, level_laying(web)), (7199994 * 10 ** 15, 1))


class Refusals(unittest.TestCase):
    def told(self):
        return (worth(ABOVE_1, WEB, LAYING), worth(BELOW_1, WEB, EVEN), is_measure(ABOVE_1))

    def test_no_web_ahead_of_all_else(self):
        ahead = self.told()
        for thing in odd_things() + [0, list(WEB), WEB[0], WEB[1], (WEB[0], WEB[1][::-1])]:
            for measure in (ABOVE_1, (), None, [], True):
                for laying in (LAYING, (), None, [], True):
                    check_refused(self, NoWeb, worth, measure, thing, laying)
        self.assertEqual(self.told(), ahead)

    def test_then_what_is_no_measure(self):
        ahead = self.told()
        for thing in odd_things() + [0, (), list(ABOVE_1), ABOVE_1[0], ABOVE_1 * 7, (("above", (1, 1), (0, 1)),)]:
            for laying in (LAYING, (), None, [], True):
                check_refused(self, NoMeasure, worth, thing, WEB, laying)
        for thing in changed(ABOVE_1, (None, True, [], (0, 2))):
            if not plain_measure(thing):
                check_refused(self, NoMeasure, worth, thing, WEB, None)
        self.assertEqual(self.told(), ahead)

    def test_then_what_is_no_laying(self):
        ahead = self.told()
        for thing in odd_things() + [0, (), list(LAYING), LAYING[:2], LAYING[::-1]]:
            check_refused(self, NoLaying, worth, ABOVE_1, WEB, thing)
        check_refused(self, NoLaying, worth, ABOVE_1, BARE, LAYING)
        self.assertEqual(self.told(), ahead)

    def test_nothing_handed_in_is_changed(self):
        check_steady(self, worth, ABOVE_1 + BELOW_1, WEB, LAYING)
        odd = [["above", [1, 1], [1, 1]]]
        self.assertIs(is_measure(odd), False)
        check_refused(self, NoMeasure, worth, odd, WEB, LAYING)
        self.assertEqual(odd, [["above", [1, 1], [1, 1]]])


if __name__ == "__main__":
    unittest.main()
