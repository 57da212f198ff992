"""What all functions that are asked of a web alone have in common."""

import copy
import random
import unittest

from tests.helper import changed, check_refused, great_web, great_webs, lines_run, odd_things, pieces, plain_web
from weblayers.cores import cores
from weblayers.densest import bearing, densest, least_densest
from weblayers.errors import NoWeb
from weblayers.layers import layers, level_heights, level_laying
from weblayers.strips import stripped

ASKS = (densest, least_densest, bearing, layers, level_heights, level_laying, stripped, cores)
WEB = ((1, 1, 2), (((0,), 2), ((0, 1), 3), ((0, 1, 2), 1)))
# A web of twelve places has 4095 parts, and looking at thirty ties for each takes more than this.
MOST_LINES = 40000


class WholeWebs(unittest.TestCase):
    def test_what_is_no_web_is_refused(self):
        ahead = [ask(WEB) for ask in ASKS]
        for ask in ASKS:
            for thing in odd_things() + [0, (WEB[0],), WEB[0], WEB[1], list(WEB), (WEB[0], WEB[1][::-1]), (WEB,)]:
                check_refused(self, NoWeb, ask, thing)
            for thing in changed(WEB, (None, True, [], "1", ())):
                if not plain_web(thing):
                    check_refused(self, NoWeb, ask, thing)
        self.assertEqual([ask(WEB) for ask in ASKS], ahead)

    def test_told_the_same_each_time_and_nothing_is_changed(self):
        webs = [great_web(random.Random(turn)) for turn in range(5)]
        kept = copy.deepcopy(webs)
        first = [[ask(web) for ask in ASKS] for web in webs]
        first_kept = copy.deepcopy(first)
        for turn in range(3):
            self.assertEqual([[ask(web) for ask in ASKS] for web in reversed(webs)], first[::-1])
        self.assertEqual(webs, kept)
        self.assertEqual(first, first_kept)

    def test_only_tuples_and_whole_numbers_are_told(self):
        for web in [WEB, ((1, 1), ()), great_web(random.Random(3))]:
            for ask in ASKS:
                self.assertLessEqual({type(one) for one in pieces(ask(web))}, {tuple, int})

    def test_parts_are_not_tried_one_by_one(self):
        for web in great_webs():
            for ask in ASKS:
                self.assertLess(lines_run(ask, web), MOST_LINES)

    def test_great_weights_are_not_laid_unit_by_unit(self):
        for web in great_webs():
            few = (web[0], tuple((places, at + 1) for at, (places, heavy) in enumerate(web[1])))
            many = (web[0], tuple((places, (at + 1) * 30000) for at, (places, heavy) in enumerate(web[1])))
            for ask in (densest, least_densest, layers):
                self.assertLess(lines_run(ask, many), lines_run(ask, few) + 500)


if __name__ == "__main__":
    unittest.main()
