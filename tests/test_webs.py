import copy
import random
import unittest
from fractions import Fraction

from tests.helper import (
    all_parts, changed, check_refused, great_web, number, odd_things, plain_places, plain_web, several_webs,
)
from weblayers.errors import NoPart, NoWeb
from weblayers.webs import cost, degree, is_part, is_web, share, weight

WEB = ((1, 1, 2, 5), (((0,), 7), ((0, 1), 3), ((0, 1, 2), 4), ((0, 1, 2, 3), 10), ((2,), 1), ((2, 3), 6)))
ONES = tuple(((one, other), 1) for one in range(12) for other in range(one + 1, 12))


def with_tie(*tie):
    """A web of three places with this one tie."""
    return ((1, 1, 1), (tie,))


class WhatAWebIs(unittest.TestCase):
    def good(self, thing):
        self.assertIs(is_web(thing), True)

    def none(self, thing):
        self.assertIs(is_web(thing), False)

    def test_places(self):
        self.good(((1,), ()))
        self.good(((1,) * 12, ()))
        self.none(((1,) * 13, ()))
        self.none(((), ()))

    def test_costs(self):
        for one, told in ((1, True), (100, True), (0, False), (101, False), (-1, False), (10 ** 30, False)):
            for at in range(3):
                costs = [1, 1, 1]
                costs[at] = one
                self.assertIs(is_web((tuple(costs), ())), told)
        for one in (True, False, None, "1", (1,), [1], {}, b"1", Fraction(1)):
            self.none(((1, one), ()))

    def test_ties(self):
        self.good(WEB)
        self.good(((1,) * 12, ONES[:30]))
        self.none(((1,) * 12, ONES[:31]))
        self.good(((1,) * 12, ONES[:1]))
        for ties in (None, [], {}, "", 0, list(ONES[:2]), ((),), (None,), (0,), ("ab",), ((0,), 1)):
            self.none(((1,) * 12, ties))

    def test_how_many_places_a_tie_has(self):
        for many, told in ((0, False), (1, True), (2, True), (3, True), (4, True), (5, False), (6, False)):
            self.assertIs(is_web(((1,) * 6, ((tuple(range(many)), 1),))), told)

    def test_places_of_a_tie(self):
        for places in ((0,), (2,), (0, 2), (1, 2), (0, 1, 2)):
            self.good(with_tie(places, 1))
        for places in (
            (0, 0), (1, 1, 2), (0, 1, 1), (1, 0), (0, 2, 1), (-1,), (-1, 0), (3,), (0, 3), (12,), (True,), (False,),
            (False, 1), (0, True), (0, None), ("0",), ((0,),), ([0],), [0], [0, 1], 0, None, "0", {0: 1}, range(2), b"\x00",
        ):
            self.none(with_tie(places, 1))

    def test_weights(self):
        for one, told in ((0, False), (1, True), (10 ** 6, True), (10 ** 6 + 1, False), (-1, False)):
            self.assertIs(is_web(with_tie((0, 1), one)), told)
        for one in (True, None, "1", (1,), (1, 1), [1], {}, Fraction(3)):
            self.none(with_tie((0, 1), one))

    def test_the_same_places_in_one_tie_alone(self):
        self.none(((1, 1), (((0, 1), 1), ((0, 1), 2))))
        self.none(((1, 1), (((0, 1), 2), ((0, 1), 2))))
        self.none(((1, 1, 1), (((0,), 1), ((0, 1), 1), ((0, 1), 5), ((1,), 1))))

    def test_ties_rise(self):
        self.good(((1, 1, 1), (((0,), 5), ((0, 1), 4), ((0, 1, 2), 3), ((0, 2), 2), ((1,), 1))))
        self.none(((1, 1, 1), (((1,), 1), ((0,), 1))))
        self.none(((1, 1, 1), (((0, 1), 1), ((0,), 2))))
        self.none(((1, 1, 1), (((0,), 1), ((1,), 1), ((0, 1), 1))))
        self.none(((1, 1, 1), (((0, 2), 1), ((0, 1, 2), 2))))

    def test_a_part_more_or_fewer(self):
        for thing in (
            (), ((1,),), ((1,), (), ()), ((1,), (), None), with_tie(), with_tie((0,)), with_tie((0,), 1, 1),
            with_tie((0,), 1, None), with_tie(0, 1), with_tie(0, 1, 1), (1, ()), ((1,), ((0,), 1)), ((1,), (((0,), 1)),),
        ):
            self.none(thing)

    def test_lists_for_tuples(self):
        for thing in (
            [(1,), ()], ([1], ()), ((1,), []), ((1,), [((0,), 1)]), ((1,), ([(0,), 1],)), ((1,), (([0], 1),)),
        ):
            self.none(thing)

    def test_things_of_any_kind(self):
        for thing in odd_things() + [0, 1, "1 1; 0+1:3", ((1,), ()) * 2]:
            self.none(thing)

    def test_things_of_any_kind_at_every_depth(self):
        put_in = odd_things()
        for web in (WEB, ((3,), ()), ((1, 2), (((0, 1), 2),))):
            seen = 0
            for thing in changed(web, put_in):
                seen += 1
                self.assertIs(is_web(thing), plain_web(thing))
            self.assertGreater(seen, 100)


class WhatAPartIs(unittest.TestCase):
    def test_parts(self):
        for part in ((0,), (3,), (0, 3), (1, 2), (0, 1, 2, 3)):
            self.assertIs(is_part(WEB, part), True)
        for part in all_parts(12):
            self.assertTrue(is_part(((1,) * 12, ()), part))

    def test_no_parts(self):
        for thing in odd_things() + [
            0, 1, (), (4,), (0, 4), (-1,), (-1, 0), (0, 0), (1, 0), (0, 2, 1), (0, 1, 1), (True,), (False,), (0, True),
            (False, 1), (0, "1"), (0, None), ((0,),), [0], [0, 1], {0: 1}, "0", range(2), (0, [1]), (0, 1, 2, 3, 4),
        ]:
            self.assertIs(is_part(WEB, thing), False)

    def test_things_of_any_kind_at_every_depth(self):
        for thing in changed((0, 1, 3), odd_things()):
            self.assertIs(is_part(WEB, thing), plain_places(thing, 4))


class WhatPartsWeigh(unittest.TestCase):
    def test_by_hand(self):
        for part, heavy, dear, told in (
            ((0,), 7, 1, (7, 1)), ((1,), 0, 1, (0, 1)), ((2,), 1, 2, (1, 2)), ((3,), 0, 5, (0, 1)),
            ((0, 1), 10, 2, (5, 1)), ((0, 2), 8, 3, (8, 3)), ((0, 3), 7, 6, (7, 6)), ((1, 2), 1, 3, (1, 3)),
            ((1, 3), 0, 6, (0, 1)), ((2, 3), 7, 7, (1, 1)), ((0, 1, 2), 15, 4, (15, 4)), ((0, 1, 3), 10, 7, (10, 7)),
            ((0, 2, 3), 14, 8, (7, 4)), ((1, 2, 3), 7, 8, (7, 8)), ((0, 1, 2, 3), 31, 9, (31, 9)),
        ):
            self.assertEqual((weight(WEB, part), cost(WEB, part), share(WEB, part)), (heavy, dear, told))

    def test_degrees_by_hand(self):
        for part, told in (
            ((0,), (7,)), ((1,), (0,)), ((2,), (1,)), ((0, 1), (10, 3)), ((0, 2), (7, 1)), ((2, 3), (7, 6)),
            ((0, 1, 2), (14, 7, 5)), ((0, 2, 3), (7, 7, 6)), ((0, 1, 2, 3), (24, 17, 21, 16)),
        ):
            self.assertEqual(tuple(degree(WEB, part, place) for place in part), told)

    def test_all_parts_of_small_webs(self):
        for web in several_webs():
            for part in all_parts(len(web[0])):
                inside = [tie for tie in web[1] if set(tie[0]) <= set(part)]
                heavy, dear = sum(tie[1] for tie in inside), sum(web[0][place] for place in part)
                self.assertEqual(weight(web, part), heavy)
                self.assertEqual(cost(web, part), dear)
                self.assertEqual(share(web, part), number(Fraction(heavy, dear)))
                for place in part:
                    self.assertEqual(degree(web, part, place), sum(tie[1] for tie in inside if place in tie[0]))

    def test_the_greatest_web(self):
        web = ((100,) * 12, tuple((places, 10 ** 6) for places, one in ONES[:30]))
        whole = tuple(range(12))
        self.assertEqual(weight(web, whole), 30 * 10 ** 6)
        self.assertEqual(cost(web, whole), 1200)
        self.assertEqual(share(web, whole), (25000, 1))
        self.assertEqual(share(web, (0, 1, 2)), (10000, 1))
        self.assertEqual(share(web, (0, 1, 2, 3, 4, 5, 6)), (150000, 7))
        self.assertEqual(degree(web, whole, 0), 11 * 10 ** 6)
        self.assertEqual(degree(web, whole, 11), 3 * 10 ** 6)

    def test_a_web_without_ties(self):
        web = ((3, 100), ())
        self.assertEqual(share(web, (0, 1)), (0, 1))
        self.assertEqual((weight(web, (1,)), cost(web, (1,)), degree(web, (1,), 1)), (0, 100, 0))

    def test_kinds_of_what_is_told(self):
        self.assertIs(type(weight(WEB, (1,))), int)
        self.assertIs(type(cost(WEB, (1,))), int)
        self.assertIs(type(degree(WEB, (1,), 1)), int)
        self.assertEqual([type(one) for one in share(WEB, (1,))], [int, int])
        self.assertIs(type(share(WEB, (1,))), tuple)


class Refusals(unittest.TestCase):
    def told(self):
        """Good calls, that must be told the same whatever was refused ahead of them."""
        return (weight(WEB, (0, 1)), cost(WEB, (0, 1)), share(WEB, (0, 1)), degree(WEB, (0, 1), 1), is_part(WEB, (0, 1)))

    def test_no_web_ahead_of_all_else(self):
        ahead = self.told()
        for thing in odd_things() + [[(1,), ()], ((1,),), ((True,), ()), ((101,), ()), with_tie((0,), 0)]:
            for part in ((0,), (), (9,), None, True, [0], "0", (object(),)):
                check_refused(self, NoWeb, is_part, thing, part)
                check_refused(self, NoWeb, weight, thing, part)
                check_refused(self, NoWeb, cost, thing, part)
                check_refused(self, NoWeb, share, thing, part)
                check_refused(self, NoWeb, degree, thing, part, 0)
                check_refused(self, NoWeb, degree, thing, part, None)
        self.assertEqual(self.told(), ahead)

    def test_then_what_is_no_part(self):
        ahead = self.told()
        for thing in odd_things() + [0, (), (4,), (1, 0), (0, 0), (-1,), (True,), (0, True), [0], [0, 1]]:
            check_refused(self, NoPart, weight, WEB, thing)
            check_refused(self, NoPart, cost, WEB, thing)
            check_refused(self, NoPart, share, WEB, thing)
            for place in (0, 4, None, True, [], "0"):
                check_refused(self, NoPart, degree, WEB, thing, place)
        self.assertEqual(self.told(), ahead)

    def test_then_a_place_that_is_not_in_the_part(self):
        ahead = self.told()
        for place in odd_things() + [2, 3, 4, (0,), [0], (0, 1), "1"]:
            check_refused(self, NoPart, degree, WEB, (0, 1), place)
        check_refused(self, NoPart, degree, WEB, (1,), True)
        check_refused(self, NoPart, degree, WEB, (0,), False)
        check_refused(self, NoPart, degree, WEB, (1, 2, 3), 0)
        check_refused(self, NoPart, degree, WEB, (0, 2), -1)
        self.assertEqual(self.told(), ahead)

    def test_nothing_handed_in_is_changed(self):
        web = great_web(random.Random(6))
        odd = ([[1], [[[0], 1]]], [0, 1], {"a": [1]})
        kept, odd_kept = copy.deepcopy(web), copy.deepcopy(odd)
        for part in ((0,), (0, 5, 11), tuple(range(12))):
            for ask in (is_part, weight, cost, share):
                ask(web, part)
            degree(web, part, 0)
        for thing in odd:
            self.assertFalse(is_web(thing))
            self.assertFalse(is_part(web, thing))
            check_refused(self, NoPart, weight, web, thing)
            check_refused(self, NoPart, degree, web, (0,), thing)
            check_refused(self, NoWeb, share, thing, thing)
        self.assertEqual((web, odd), (kept, odd_kept))


if __name__ == "__main__":
    unittest.main()
