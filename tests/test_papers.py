import copy
import random
import unittest

from tests.helper import (
    all_parts, busy_loom, changed, check_refused, check_steady, great_arrows, great_web, great_webs, number, odd_things,
    one_sided_layings, pieces, plain_heights, plain_laying, plain_level, plain_places, plain_web, refusal_of, rows,
    several_webs, some_arrows, some_laying, some_thread, tiny_webs,
)
from weblayers.arrows import splits, thickest_flow
from weblayers.checker import holds
from weblayers.cores import core_part, cores
from weblayers.densest import bearing, densest, least_densest
from weblayers.errors import NoArrows, NoLaying, NoPart, NoSize, NoWeb
from weblayers.layers import layers, level_heights, level_laying
from weblayers.looms import Loom
from weblayers.musts import bearing_with, densest_with
from weblayers.papers import (
    paper_core, paper_densest, paper_flow, paper_heights, paper_layers, paper_leads, paper_loom, paper_size, paper_with,
)
from weblayers.roads import gone, to_level
from weblayers.sizes import bound, heaviest
from weblayers.webs import share

WEB = ((1, 1, 2), (((0,), 2), ((0, 1), 3), ((0, 1, 2), 1)))
LEVEL = (((2, 1),), ((1, 2), (5, 2)), ((0, 1), (0, 1), (1, 1)))
STEEP = (((2, 1),), ((3, 2), (3, 2)), ((1, 3), (1, 3), (1, 3)))
ARROWS = (2, ((0, 1, 5),))


class Papers(unittest.TestCase):
    def check_taken(self, told, word):
        """A tuple of claim and paper that the checker takes; told are both."""
        self.assertEqual((type(told), len(told)), (tuple, 2))
        claim, paper = told
        self.assertEqual((type(claim), claim[0]), (tuple, word))
        self.assertLessEqual({type(one) for one in pieces(told)}, {tuple, int, str, type(None)})
        self.assertIs(holds(claim, paper), True)
        return claim, paper

    def check_web(self, web, chance, layings=None):
        many = len(web[0])
        parts = all_parts(many)
        self.check_parts(web, parts if many < 5 else chance.sample(parts, 6) + [densest(web), *least_densest(web)])
        claim, paper = self.check_taken(paper_heights(web), "heights")
        self.assertEqual(claim[1:], (web, level_heights(web)))
        self.check_level(web, paper)
        claim, paper = self.check_taken(paper_layers(web), "layers")
        self.assertEqual(claim[1:], (web, layers(web)))
        self.check_level(web, paper)
        for laying in layings or [some_laying(chance, web), level_laying(web)]:
            self.check_leads(web, laying)
        for place in range(many):
            self.check_core(web, place)
        for musts in [()] + (parts if many < 4 else chance.sample(parts, 4)):
            claim, paper = self.check_taken(paper_with(web, musts), "with")
            self.assertEqual(claim[1:], (web, musts, densest_with(web, musts)))
            self.assertEqual(paper, bearing_with(web, musts))
        for size in range(1, many + 1):
            self.check_size(web, size)

    def check_level(self, web, laying):
        self.assertTrue(plain_laying(web, laying) and plain_level(web, laying))

    def check_parts(self, web, parts):
        most = share(web, densest(web))
        for part in parts:
            if share(web, part) == most:
                claim, paper = self.check_taken(paper_densest(web, part), "densest")
                self.assertEqual(paper, bearing(web))
            else:
                claim, paper = self.check_taken(paper_densest(web, part), "not densest")
                self.assertTrue(plain_places(paper, len(web[0])))
            self.assertEqual(claim[1:], (web, part))

    def check_leads(self, web, laying):
        claim, paper = self.check_taken(paper_leads(web, laying), "leads")
        level = [number(high * price) for high, price in zip(plain_heights(web, level_laying(web)), web[0])]
        self.assertEqual(claim[1:], (web, laying, tuple(level)))
        self.assertEqual(paper, to_level(web, laying))

    def check_core(self, web, place):
        claim, paper = self.check_taken(paper_core(web, place), "core")
        self.assertEqual(claim[1:], (web, place, cores(web)[place]))
        self.assertEqual(paper[0], core_part(web, place))

    def check_size(self, web, size):
        claim, paper = self.check_taken(paper_size(web, size), "at most")
        top, bottom = bound(web, size)
        self.assertEqual(claim[1:], (web, size, top // bottom))
        self.assertGreaterEqual(claim[3], heaviest(web, size)[0])
        self.check_level(web, paper)

    def check_flow(self, arrows):
        claim, paper = self.check_taken(paper_flow(arrows), "flow")
        self.assertEqual(claim[1:], (arrows, *thickest_flow(arrows)))
        self.assertEqual(paper, splits(arrows))

    def check_loom(self, loom):
        claim, paper = self.check_taken(paper_loom(loom), "loom")
        lying = loom.threads()
        self.assertIsNone(paper)
        self.assertEqual(claim[1], len(loom.loads()))
        self.assertEqual(claim[2], tuple(thread for one, thread, place in lying))
        self.assertEqual(claim[3], tuple(place for one, thread, place in lying))

    def test_by_hand(self):
        heights = ((5, 2), (5, 2), (1, 2))
        self.assertEqual(paper_densest(WEB, (0, 1)), (("densest", WEB, (0, 1)), LEVEL))
        self.assertEqual(paper_densest(WEB, (0,)), (("not densest", WEB, (0,)), (0, 1)))
        self.assertEqual(paper_heights(WEB), (("heights", WEB, heights), LEVEL))
        self.assertEqual(paper_layers(WEB), (("layers", WEB, (((0, 1), (5, 2)), ((2,), (1, 2)))), LEVEL))
        claim, roads = paper_leads(WEB, STEEP)
        self.assertEqual(claim, ("leads", WEB, STEEP, ((5, 2), (5, 2), (1, 1))))
        self.assertEqual(plain_heights(WEB, gone(WEB, STEEP, roads)), plain_heights(WEB, LEVEL))
        self.assertEqual(paper_leads(WEB, LEVEL), (("leads", WEB, LEVEL, ((5, 2), (5, 2), (1, 1))), ()))
        self.assertEqual(paper_core(WEB, 2), (("core", WEB, 2, (1, 2)), ((0, 1, 2), (2,))))
        self.assertEqual(paper_core(WEB, 1), (("core", WEB, 1, (3, 1)), ((0, 1), (2, 1))))
        self.assertEqual(paper_core(WEB, 0), (("core", WEB, 0, (3, 1)), ((0, 1), (2, 1, 0))))
        claim, laying = paper_with(WEB, (2,))
        self.assertEqual(claim, ("with", WEB, (2,), (0, 1, 2)))
        self.assertEqual(paper_size(WEB, 1), (("at most", WEB, 1, 2), LEVEL))
        self.assertEqual(paper_size(WEB, 2), (("at most", WEB, 2, 5), LEVEL))
        self.assertEqual(paper_size(WEB, 3), (("at most", WEB, 3, 6), LEVEL))
        claim, paper = paper_flow(ARROWS)
        self.assertEqual(claim, ("flow", ARROWS, (0,), (1,)))
        self.check_web(WEB, random.Random(230), [STEEP, LEVEL])
        self.check_flow(ARROWS)

    def test_a_loom_by_hand(self):
        loom = Loom(3)
        self.assertEqual(paper_loom(loom), (("loom", 3, (), ()), None))
        for thread in ((2,), (1, 2), (0, 1), (0,)):
            loom.put(thread)
        self.assertEqual(paper_loom(loom), (("loom", 3, ((2,), (1, 2), (0, 1), (0,)), (2, 1, 0, 0)), None))
        loom.take(0)
        # By their numbers, whatever places they came to.
        self.assertEqual(paper_loom(loom), (("loom", 3, ((1, 2), (0, 1), (0,)), (2, 1, 0)), None))

    def test_tiny_webs(self):
        chance = random.Random(231)
        for web in list(tiny_webs())[::9]:
            self.check_web(web, chance)

    def test_small_webs(self):
        chance = random.Random(232)
        for web in list(several_webs())[::2]:
            self.check_web(web, chance)

    def test_great_webs(self):
        chance = random.Random(233)
        for at, web in enumerate(great_webs()):
            if at % 4 == 0:
                self.check_web(web, chance, [some_laying(chance, web), *one_sided_layings(web)])
        for web in rows():
            self.check_web(web, chance)

    def test_numbers_of_the_greatest_sizes(self):
        chance = random.Random(234)
        primes = (999983, 999979, 999961, 999959, 999953, 999931, 999917, 999907, 999883, 999863, 10 ** 6)
        for sizes in ((4,), (1, 2, 3, 4)):
            web = great_web(chance, sizes)
            laying = some_laying(chance, web, primes)
            self.check_leads(web, laying)
            # What comes of roads that were told may be handed in as well.
            roads = to_level(web, laying)
            for many in (1, len(roads) // 2, len(roads)):
                self.check_leads(web, gone(web, laying, roads[:many]))

    def test_arrows(self):
        chance = random.Random(235)
        for many in range(1, 7):
            self.check_flow((many, ()))
        for turn in range(30):
            self.check_flow(some_arrows(chance, chance.randint(1, 6), most_weight=(1, 5, 10 ** 6)[turn % 3]))
        for turn in range(6):
            self.check_flow(great_arrows(chance, (1, 10 ** 6)[turn % 2]))

    def test_looms(self):
        chance = random.Random(236)
        for many in range(1, 13):
            self.check_loom(Loom(many))
            for deeds in (1, 5, 20, 60):
                self.check_loom(busy_loom(chance, many, deeds))
        for turn in range(6):
            loom = busy_loom(chance, 12, 30, takes=0)
            self.assertEqual(len(loom.threads()), 30)
            self.check_loom(loom)

    def test_behind_each_deed(self):
        chance = random.Random(237)
        loom = Loom(7)
        for turn in range(60):
            loom.put(some_thread(chance, 7))
            self.check_loom(loom)
            if turn % 3 or len(loom.threads()) == 30:
                loom.take(chance.choice(loom.threads())[0])
                self.check_loom(loom)


def web_questions():
    """Papers that are asked of a web alone, and of a web and one thing more, with their questions."""
    alone = [(paper_heights, level_heights), (paper_layers, layers)]
    more = [
        (paper_densest, share, (0, 1), NoPart), (paper_leads, to_level, STEEP, NoLaying), (paper_core, core_part, 1, NoPart),
        (paper_with, densest_with, (), NoPart), (paper_size, bound, 2, NoSize),
    ]
    return alone, more


class Refusals(unittest.TestCase):
    def check_as_question(self, paper, question, *told):
        one, other = refusal_of(paper, *told), refusal_of(question, *told)
        self.assertIs(type(one), type(other))
        return one

    def test_no_web_ahead_of_all_else(self):
        alone, more = web_questions()
        bad = odd_things() + [0, (), WEB[0], WEB[1], list(WEB), (WEB[0], WEB[1][::-1]), (WEB,), ARROWS]
        bad += [thing for thing in changed(WEB, (None, True, [])) if not plain_web(thing)]
        for thing in bad:
            for paper, question in alone:
                check_refused(self, NoWeb, paper, thing)
            for paper, question, good, kind in more:
                for other in (good, None, (), [], True, (9,)):
                    check_refused(self, NoWeb, paper, thing, other)

    def test_then_as_the_questions(self):
        alone, more = web_questions()
        things = odd_things() + [0, 1, 2, 3, 4, (), (0,), (2,), (3,), (0, 2), (1, 0), [0], "0", STEEP, LEVEL, list(STEEP), WEB]
        for paper, question, good, kind in more:
            self.assertIsNone(self.check_as_question(paper, question, WEB, good))
            refused = 0
            for thing in things + list(changed(good, (None, True, [], 0, 1, (1, 1)))):
                told = self.check_as_question(paper, question, WEB, thing)
                self.assertIn(type(told), (kind, type(None)))
                refused += told is not None
            self.assertGreater(refused, 50)

    def test_no_arrows(self):
        for thing in odd_things() + [0, (), WEB, list(ARROWS), (0, ()), (7, ()), (2, ((1, 0, 1), (0, 1, 1)))]:
            check_refused(self, NoArrows, paper_flow, thing)

    def test_told_the_same_each_time_and_nothing_is_changed(self):
        kinds = (tuple, int, str)
        for web, laying in ((WEB, STEEP), (great_web(random.Random(238)), None)):
            laying = laying or some_laying(random.Random(239), web)
            check_steady(self, paper_heights, web, kinds=kinds)
            check_steady(self, paper_layers, web, kinds=kinds)
            check_steady(self, paper_densest, web, (0, 2), kinds=kinds)
            check_steady(self, paper_leads, web, laying, kinds=kinds)
            check_steady(self, paper_core, web, 1, kinds=kinds)
            check_steady(self, paper_with, web, (1,), kinds=kinds)
            check_steady(self, paper_size, web, 2, kinds=kinds)
        check_steady(self, paper_flow, great_arrows(random.Random(240)), kinds=kinds)

    def test_a_loom_stays_as_it_was(self):
        loom = busy_loom(random.Random(241), 8, 40)
        ahead = (loom.threads(), loom.loads(), loom.web(), loom.thick())
        told = paper_loom(loom)
        kept = copy.deepcopy(told)
        self.assertEqual(paper_loom(loom), told)
        self.assertEqual((loom.threads(), loom.loads(), loom.web(), loom.thick()), ahead)
        for one, thread, place in loom.threads():
            loom.take(one)
        self.assertEqual(told, kept)


if __name__ == "__main__":
    unittest.main()
