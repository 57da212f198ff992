import random
import unittest
from fractions import Fraction

from tests.helper import (
    changed, check_refused, check_steady, great_web, great_webs, number, odd_things, one_sided_layings, plain_gone,
    plain_level, plain_road, refusal_of, several_webs, some_laying, some_measure, some_road, some_web, tiny_webs,
)
from weblayers.errors import NoLaying, NoRoad, NoWeb
from weblayers.layers import level_heights, level_laying
from weblayers.layings import heights, is_laying, is_level
from weblayers.measures import worth
from weblayers.roads import gone, to_level

WEB = ((1, 1, 2), (((0,), 2), ((0, 1), 3), ((0, 1, 2), 1)))
# Heights 23/6, 11/6, 1/6.
LAYING = (((2, 1),), ((3, 2), (3, 2)), ((1, 3), (1, 3), (1, 3)))
ROAD = (((1, 0, 1), (2, 1, 2)), (1, 4))
FOUR = ((1, 1, 1, 1), (((0,), 9), ((0, 1, 2, 3), 4), ((1, 2), 2)))
FOUR_LAYING = (((9, 1),), ((3, 1), (0, 1), (1, 1), (0, 1)), ((2, 1), (0, 1)))
BARE = ((4, 1), ())


class Gone(unittest.TestCase):
    def check_road(self, web, laying, roads):
        """gone tells the same as the second writing, a refusal with the same number too."""
        told = plain_gone(web, laying, roads)
        if isinstance(told, tuple):
            self.assertEqual(gone(web, laying, roads), told)
        else:
            self.check_number(told, web, laying, roads)

    def check_number(self, number_told, web, laying, roads):
        check_refused(self, NoRoad, gone, web, laying, roads)
        found = refusal_of(gone, web, laying, roads).number
        self.assertEqual((found, type(found)), (number_told, type(number_told)))

    def test_by_hand(self):
        for web, laying, roads, told in (
            (WEB, LAYING, (), LAYING),
            (BARE, (), (), ()),
            (WEB, LAYING, ((((1, 0, 1),), (1, 1)),), (((2, 1),), ((1, 2), (5, 2)), ((1, 3), (1, 3), (1, 3)))),
            (WEB, LAYING, ((((1, 0, 1),), (1, 3)),), (((2, 1),), ((7, 6), (11, 6)), ((1, 3), (1, 3), (1, 3)))),
            (WEB, LAYING, ((((2, 1, 2),), (1, 3)),), (((2, 1),), ((3, 2), (3, 2)), ((1, 3), (0, 1), (2, 3)))),
            (WEB, LAYING, (ROAD,), (((2, 1),), ((5, 4), (7, 4)), ((1, 3), (1, 12), (7, 12)))),
            (
                WEB, LAYING, ((((2, 0, 2),), (1, 3)), (((2, 1, 2),), (1, 3)), (((1, 0, 1),), (1, 1))),
                (((2, 1),), ((1, 2), (5, 2)), ((0, 1), (0, 1), (1, 1))),
            ),
            (
                FOUR, FOUR_LAYING, ((((1, 0, 1), (2, 1, 2), (1, 2, 3)), (1, 1)),),
                (((9, 1),), ((2, 1), (1, 1), (0, 1), (1, 1)), ((1, 1), (1, 1))),
            ),
        ):
            self.assertEqual(gone(web, laying, roads), told)
            self.check_road(web, laying, roads)

    def test_a_tie_may_come_twice(self):
        # What the first step brings the second one takes on.
        self.assertEqual(
            gone(FOUR, FOUR_LAYING, ((((1, 0, 1), (1, 1, 3)), (3, 1)),)),
            (((9, 1),), ((0, 1), (0, 1), (1, 1), (3, 1)), ((2, 1), (0, 1))),
        )
        self.assertEqual(
            gone(FOUR, FOUR_LAYING, ((((1, 0, 3), (1, 3, 1), (1, 1, 2)), (5, 2)),)),
            (((9, 1),), ((1, 2), (0, 1), (7, 2), (0, 1)), ((2, 1), (0, 1))),
        )

    def test_so_much_must_lie_there_when_the_step_comes(self):
        for road in (
            (((1, 0, 1),), (3000001, 10 ** 6)),
            (((1, 1, 3),), (1, 1)),
            (((1, 0, 1), (1, 1, 3)), (4, 1)),
            # What one tie brings to a place can't go on over another tie.
            (((1, 0, 2), (2, 2, 1)), (1, 10 ** 6)),
            (((2, 1, 2), (1, 2, 3)), (3, 2)),
        ):
            self.check_number(0, FOUR, FOUR_LAYING, (road,))
            self.check_road(FOUR, FOUR_LAYING, (road,))

    def test_the_first_place_is_not_lower_than_the_last_behind_it(self):
        web = ((1, 3), (((0, 1), 4),))
        laying = (((3, 1), (1, 1)),)
        self.assertEqual(gone(web, laying, ((((0, 0, 1),), (2, 1)),)), (((1, 1), (3, 1)),))
        self.check_number(0, web, laying, ((((0, 0, 1),), (2000001, 10 ** 6)),))
        self.check_number(0, web, laying, ((((0, 0, 1),), (3, 1)),))
        self.check_number(0, web, laying, ((((0, 1, 0),), (1, 10 ** 6)),))
        # Only the first and the last place are looked at, whatever lies between.
        web = ((1, 1, 1), (((0, 1), 1), ((1,), 50), ((1, 2), 1)))
        laying = (((1, 1), (0, 1)), ((50, 1),), ((1, 1), (0, 1)))
        road = (((0, 0, 1), (2, 1, 2)), (1, 2))
        self.assertEqual(gone(web, laying, (road,)), (((1, 2), (1, 2)), ((50, 1),), ((1, 2), (1, 2))))
        self.check_number(0, web, laying, ((road[0], (2, 3)),))
        web = ((1, 1, 1), (((0, 1), 4), ((1, 2), 1)))
        laying = (((4, 1), (0, 1)), ((1, 1), (0, 1)))
        self.assertEqual(gone(web, laying, ((((0, 0, 1), (1, 1, 2)), (1, 1)),)), (((3, 1), (1, 1)), ((0, 1), (1, 1))))

    def test_what_is_no_road(self):
        for road in odd_things() + [
            0, (), ROAD[0], (ROAD[0],), ROAD + ((),), list(ROAD), (list(ROAD[0]), ROAD[1]), ((), (1, 4)),
            ((ROAD[0][0], list(ROAD[0][1])), (1, 4)), (ROAD[0], [1, 4]), (ROAD[0], (2, 8)), (ROAD[0], (0, 1)),
            (ROAD[0], (-1, 4)), (ROAD[0], 1), (ROAD[0], True), (ROAD[0], None), (ROAD[0], (True, 4)), (ROAD[0], (1, True)),
            (((3, 0, 1),), (1, 4)), (((-1, 0, 1),), (1, 4)), (((True, 0, 1),), (1, 4)), (((1, False, 1),), (1, 4)),
            (((1, 0, True),), (1, 4)), (((1, 0, 2),), (1, 4)), (((0, 0, 1),), (1, 4)), (((1, 0, 0),), (1, 4)),
            (((1, 0),), (1, 4)), (((1, 0, 1, 2),), (1, 4)), ((1, 0, 1), (1, 4)), (((1, 0, 3),), (1, 4)),
            (((1, 0, -1),), (1, 4)), (((1, 0, 1), (2, 0, 2)), (1, 4)), (((2, 0, 2), (1, 0, 1)), (1, 4)),
            (((1, 0, 1), (2, 1, 0)), (1, 4)), (((1, 0, 1), (2, 1, 2), (2, 2, 0)), (1, 4)),
            (((2, 0, 1), (2, 1, 2), (2, 2, 1)), (1, 4)),
        ]:
            self.assertIs(plain_road(WEB, road), False)
            self.check_number(0, WEB, LAYING, (road,))
            self.check_number(1, WEB, LAYING, (ROAD, road))
            self.check_number(1, WEB, LAYING, (ROAD, road, road, ROAD))
            self.check_number(0, BARE, (), (road,))

    def test_things_of_any_kind_at_every_depth(self):
        put_in = odd_things() + [0, 1, 2, (1, 1), (1, 2), (2, 1, 0), (1, 1, 0)]
        for thing in changed(ROAD, put_in):
            self.check_road(WEB, LAYING, (thing,))
            self.check_road(WEB, LAYING, (ROAD, thing, ROAD))

    def test_the_first_such_road_is_told(self):
        can_not = (((1, 1, 0),), (1, 4))
        for roads, told in (
            ((can_not,), 0), ((ROAD, can_not, None), 1), ((ROAD, None, can_not), 1), ((None, can_not), 0),
            ((can_not, None), 0), ((ROAD, ROAD), 1), ((ROAD, (ROAD[0], (1, 12)), ROAD), 2), ((ROAD,) * 20, 1),
        ):
            self.check_number(told, WEB, LAYING, roads)

    def test_none_of_what_is_no_tuple(self):
        for thing in [one for one in odd_things() if not isinstance(one, tuple)] + [0, 1, [], [ROAD], {0: ROAD}, "roads"]:
            self.check_number(None, WEB, LAYING, thing)
            self.check_number(None, BARE, (), thing)

    def test_many_roads(self):
        chance = random.Random(50)
        can, can_not = 0, 0
        for web in several_webs():
            laying = some_laying(chance, web)
            for turn in range(12):
                road = some_road(chance, web)
                if road is None:
                    break
                self.assertTrue(plain_road(web, road))
                told = plain_gone(web, laying, (road,))
                self.check_road(web, laying, (road,))
                self.check_road(web, laying, (road, road, road))
                can_not += told == 0
                if isinstance(told, tuple):
                    can += 1
                    self.check_no_more_worth(chance, web, laying, told)
                    laying = told
        self.assertGreater(can, 200)
        self.assertGreater(can_not, 200)

    def check_no_more_worth(self, chance, web, ahead, behind):
        for measure in (some_measure(chance), some_measure(chance, 10 ** 6)):
            self.assertLessEqual(Fraction(*worth(measure, web, behind)), Fraction(*worth(measure, web, ahead)))

    def test_one_behind_the_other_comes_to_the_same(self):
        chance = random.Random(51)
        for turn in range(60):
            web = some_web(chance, 6, 9, most_cost=5, most_weight=20)
            laying = some_laying(chance, web)
            roads = to_level(web, laying)
            step_by_step = laying
            for road in roads:
                step_by_step = gone(web, step_by_step, (road,))
            self.assertEqual(gone(web, laying, roads), step_by_step)


class ToLevel(unittest.TestCase):
    def check(self, web, laying):
        roads = to_level(web, laying)
        self.assertIs(type(roads), tuple)
        self.assertLessEqual(len(roads), 3 * len(web[1]) + len(web[0]))
        for road in roads:
            self.assertTrue(plain_road(web, road))
        level = gone(web, laying, roads)
        self.assertEqual(plain_gone(web, laying, roads), level)
        self.assertTrue(is_laying(web, level))
        self.assertTrue(is_level(web, level))
        self.assertTrue(plain_level(web, level))
        self.assertEqual(heights(web, level), level_heights(web))

    def test_by_hand(self):
        for web, laying, roads in (
            (BARE, (), ()),
            (((1, 1), (((0, 1), 4),)), (((4, 1), (0, 1)),), ((((0, 0, 1),), (2, 1)),)),
            (((1, 1), (((0, 1), 4),)), (((1, 1), (3, 1)),), ((((0, 1, 0),), (1, 1)),)),
            (((1, 3), (((0, 1), 4),)), (((3, 1), (1, 1)),), ((((0, 0, 1),), (2, 1)),)),
            (((1, 1), (((0,), 5), ((0, 1), 1))), (((5, 1),), ((1, 2), (1, 2))), ((((1, 0, 1),), (1, 2)),)),
            (
                ((1, 1, 1), (((0,), 2), ((0, 1), 1), ((1, 2), 1))), (((2, 1),), ((1, 1), (0, 1)), ((1, 1), (0, 1))),
                ((((1, 0, 1), (2, 1, 2)), (1, 1)),),
            ),
        ):
            self.assertEqual(to_level(web, laying), roads)
            self.check(web, laying)

    def test_tiny_webs(self):
        chance = random.Random(52)
        for web in tiny_webs():
            for laying in one_sided_layings(web):
                self.check(web, laying)
            self.check(web, some_laying(chance, web))

    def test_small_webs(self):
        chance = random.Random(53)
        for web in several_webs():
            for laying in one_sided_layings(web):
                self.check(web, laying)
            for turn in range(3):
                self.check(web, some_laying(chance, web, (1, 2, 3, 999983, 10 ** 6)))

    def test_great_webs(self):
        chance = random.Random(54)
        for web in great_webs():
            for laying in one_sided_layings(web):
                self.check(web, laying)
            self.check(web, some_laying(chance, web))

    def test_level_layings(self):
        for web in several_webs():
            self.check(web, level_laying(web))

    def test_level_but_turned_round(self):
        # Level as it is, though it isn't the level laying that is told.
        web = ((1, 1, 1), (((0, 1), 2), ((0, 1, 2), 3), ((0, 2), 2), ((1, 2), 2)))
        for turn in (Fraction(-1), Fraction(-1, 3), Fraction(0), Fraction(1, 999983), Fraction(1)):
            back, forth = number(1 - turn), number(1 + turn)
            self.check(web, ((forth, back), ((1, 1),) * 3, (back, forth), (forth, back)))

    def test_roads_make_no_worth_more(self):
        chance = random.Random(55)
        less = 0
        for turn in range(80):
            web = some_web(chance, chance.randint(2, 7), 10, most_cost=5, most_weight=20)
            laying = some_laying(chance, web)
            measures = [some_measure(chance) for one in range(4)]
            worths = [Fraction(*worth(measure, web, laying)) for measure in measures]
            for road in to_level(web, laying):
                laying = gone(web, laying, (road,))
                after = [Fraction(*worth(measure, web, laying)) for measure in measures]
                self.assertTrue(all(one <= other for one, other in zip(after, worths)))
                less += after != worths
                worths = after
        self.assertGreater(less, 100)

    def test_the_greatest_inputs(self):
        chance = random.Random(56)
        primes = (999983, 999979, 999961, 999959, 999953, 999931, 999917, 999907, 999883, 999863, 10 ** 6)
        for sizes in ((4,), (3, 4), (1, 2, 3, 4)):
            web = great_web(chance, sizes)
            laying = some_laying(chance, web, primes)
            self.check(web, laying)
            check_steady(self, to_level, web, laying)
            check_steady(self, gone, web, laying, to_level(web, laying))


class Refusals(unittest.TestCase):
    def told(self):
        return (gone(WEB, LAYING, (ROAD,)), to_level(WEB, LAYING))

    def test_no_web_ahead_of_all_else(self):
        ahead = self.told()
        for thing in odd_things() + [0, list(WEB), WEB[0], WEB[1], (WEB[0], WEB[1][::-1])]:
            for laying in (LAYING, (), None, [], True):
                check_refused(self, NoWeb, to_level, thing, laying)
                for roads in ((ROAD,), (), None, [], (None,)):
                    check_refused(self, NoWeb, gone, thing, laying, roads)
        self.assertEqual(self.told(), ahead)

    def test_then_what_is_no_laying(self):
        ahead = self.told()
        for thing in odd_things() + [0, (), list(LAYING), LAYING[:2], LAYING[::-1], (list(LAYING[0]),) + LAYING[1:]]:
            check_refused(self, NoLaying, to_level, WEB, thing)
            for roads in ((ROAD,), (), None, [], (None,)):
                check_refused(self, NoLaying, gone, WEB, thing, roads)
        check_refused(self, NoLaying, gone, BARE, LAYING, ())
        self.assertEqual(self.told(), ahead)

    def test_then_what_is_no_road(self):
        ahead = self.told()
        for roads in (None, [ROAD], (None,), (ROAD, ROAD), (ROAD[0],), ROAD):
            check_refused(self, NoRoad, gone, WEB, LAYING, roads)
        self.assertEqual(self.told(), ahead)

    def test_told_the_same_each_time_and_nothing_is_changed(self):
        check_steady(self, gone, WEB, LAYING, (ROAD,))
        check_steady(self, gone, WEB, LAYING, ())
        check_steady(self, to_level, WEB, LAYING)
        odd = [[[[1, 0, 1]], [1, 4]]]
        check_refused(self, NoRoad, gone, WEB, LAYING, odd)
        check_refused(self, NoRoad, gone, WEB, LAYING, tuple(odd))
        self.assertEqual(odd, [[[[1, 0, 1]], [1, 4]]])


if __name__ == "__main__":
    unittest.main()
