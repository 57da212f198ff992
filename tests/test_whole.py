"""What is promised over the whole program."""

import copy
import random
import unittest
from fractions import Fraction

from tests.helper import (
    busy_loom, great_arrows, great_web, number, several_webs, some_arrows, some_laying, some_measure, some_web,
)
from weblayers.arrows import flow, is_arrows, splits, square_share, thickest_flow
from weblayers.checker import holds
from weblayers.cores import core_part, cores
from weblayers.densest import bearing, densest, least_densest
from weblayers.desk import Desk
from weblayers.errors import NoPart, NoRoad, NoText, WebError
from weblayers.layers import layers, level_heights, level_laying
from weblayers.layings import heights, is_laying, is_level, loads
from weblayers.looms import Loom
from weblayers.measures import is_measure, worth
from weblayers.musts import bearing_with, densest_with
from weblayers.papers import (
    paper_core, paper_densest, paper_flow, paper_heights, paper_layers, paper_leads, paper_loom, paper_size, paper_with,
)
from weblayers.roads import gone, to_level
from weblayers.sizes import bound, densest_sized, heaviest
from weblayers.strips import stripped
from weblayers.webs import cost, degree, is_part, is_web, share, weight
from weblayers.webtexts import read_arrows, read_web, show_arrows, show_number, show_web


def web_calls(chance, web):
    """Every question of a web, with things to ask of it, well made and not."""
    many = len(web[0])
    part = tuple(sorted(chance.sample(range(many), chance.randint(1, many))))
    laying, measure = some_laying(chance, web), some_measure(chance)
    roads = to_level(web, laying)
    alone = (
        is_web, densest, least_densest, bearing, layers, level_heights, level_laying, stripped, cores, paper_heights,
        paper_layers, show_web,
    )
    yield from ((ask, (web,)) for ask in alone)
    for musts in (part, (), [0], (many,)):
        parted = (is_part, weight, cost, share, densest_with, bearing_with, paper_with, paper_densest)
        yield from ((ask, (web, musts)) for ask in parted)
    for place in (part[0], many, [], None):
        yield from ((ask, (web, place)) for ask in (core_part, paper_core))
        yield degree, (web, part, place)
    for size in (1, many, many + 1, [1]):
        yield from ((ask, (web, size)) for ask in (heaviest, bound, paper_size))
        yield densest_sized, (web, 1, size)
    for one in (laying, level_laying(web), list(laying), [[[1]]]):
        yield from ((ask, (web, one)) for ask in (is_laying, loads, heights, is_level, to_level, paper_leads))
        yield worth, (measure, web, one)
        for way in (roads, roads[::-1], list(roads), roads[:1] + ([],)):
            yield gone, (web, one, way)
    yield read_web, (show_web(web),)
    yield read_web, ([show_web(web)],)
    yield is_measure, (measure,)
    yield is_measure, ([measure],)
    yield worth, (list(measure), web, laying)


def arrow_calls(chance, arrows):
    many = arrows[0]
    ones = tuple(sorted(chance.sample(range(many), chance.randint(1, many))))
    yield from ((ask, (arrows,)) for ask in (is_arrows, thickest_flow, splits, paper_flow, show_arrows))
    for others in (ones, (0,), [0], ()):
        yield flow, (arrows, ones, others)
        yield square_share, (arrows, others, ones)
    yield read_arrows, (show_arrows(arrows),)
    yield show_number, (square_share(arrows, ones, ones),)
    yield is_arrows, (list(arrows),)


def checker_calls(calls):
    for ask, told in list(calls):
        if ask.__name__.startswith("paper_"):
            try:
                claim, paper = ask(*told)
            except WebError:
                continue
            yield holds, (claim, paper)
            yield holds, (claim, [paper])
            yield holds, (list(claim), paper)


def answer(ask, told):
    """What is told, or the refusal's kind and fields."""
    try:
        return ask(*told)
    except WebError as refusal:
        return type(refusal), vars(refusal)


class Steady(unittest.TestCase):
    def calls(self, chance):
        webs = [((1,), ()), some_web(chance, 3, 4, 3, 5), some_web(chance, 5, 8), great_web(chance)]
        arrows = [(1, ()), some_arrows(chance, 3), great_arrows(chance)]
        calls = [call for web in webs for call in web_calls(chance, web)]
        calls += [call for one in arrows for call in arrow_calls(chance, one)]
        return calls + list(checker_calls(calls))

    def test_asked_again_by_turns_all_is_the_same(self):
        chance = random.Random(270)
        calls = self.calls(chance)
        self.assertGreater(len(calls), 300)
        kept = copy.deepcopy([told for ask, told in calls])
        first = [answer(ask, told) for ask, told in calls]
        first_kept = copy.deepcopy(first)
        order = list(range(len(calls)))
        for turn in range(2):
            chance.shuffle(order)
            for at in order:
                ask, told = calls[at]
                self.assertEqual(answer(ask, told), first_kept[at])
        self.assertEqual([told for ask, told in calls], kept)
        self.assertEqual(first, first_kept)

    def test_lists_handed_in_may_be_changed_later(self):
        # What was told of a refusal, or by a loom or a desk, doesn't hang on what was handed in.
        web = ((1, 1), (((0, 1), 2),))
        roads = [[((0, 0, 1),), (1, 1)]]
        for ask, told, kind in (
            (share, (web, [0]), NoPart), (gone, (web, (((1, 1), (1, 1)),), tuple(roads)), NoRoad), (read_web, (["1"],), NoText),
        ):
            self.assertIs(answer(ask, told)[0], kind)
        row = ["show a"]
        desk = Desk()
        refusal = answer(desk.say, (row,))
        self.assertIs(refusal[1]["row"], row)
        row.append(1)
        self.assertEqual(desk.say("web a 1"), "ok")

    def test_looms_and_desks_by_turns_with_all_else(self):
        chance = random.Random(271)
        calls = self.calls(chance)
        threads = [tuple(sorted(chance.sample(range(6), chance.randint(1, 4)))) for one in range(25)]
        rows = ["web a 1 1 2; 0:2; 0+1:3; 0+1+2:1", "densest a", "paper", "layers a", "core a 1", "paper", "show a"]
        told = []
        for others in ([], calls):
            loom, desk, answers = Loom(6), Desk(), []
            for at in range(50):
                for ask, handed in others[at::60]:
                    answer(ask, handed)
                answers.append(loom.put(threads[at]) if at < 25 else loom.take(at - 25))
                answers.append((loom.loads(), loom.threads(), loom.web(), loom.thick()))
                answers.append(desk.say(rows[at % len(rows)]))
            told.append(answers)
        self.assertEqual(*told)


class WhateverIsTold(unittest.TestCase):
    """Whatever the program tells the checker takes, and what it tells holds together."""

    def check_web(self, chance, web):
        many = len(web[0])
        most = share(web, densest(web))
        level, high = level_laying(web), level_heights(web)
        level_loads = loads(web, level)
        claims = [(("densest", web, part), bearing(web)) for part in (densest(web), *least_densest(web))]
        claims += [(("heights", web, high), level), (("layers", web, layers(web)), level)]
        claims += [(("densest", web, densest_sized(web, 1, many)[1][0]), level)]
        # The stripped part is the densest one or has a smaller share, which the densest part shows.
        part = stripped(web)[1]
        claims += [paper_densest(web, part)]
        claims += [paper_core(web, place) for place in range(many)]
        claims += [paper_size(web, size) for size in range(1, many + 1)]
        for musts in ((), (0,), part):
            claims.append((("with", web, musts, densest_with(web, musts)), bearing_with(web, musts)))
        laying = some_laying(chance, web)
        roads = to_level(web, laying)
        claims.append((("leads", web, laying, level_loads), roads))
        for at in range(len(roads) + 1):
            claims.append((("leads", web, laying, loads(web, gone(web, laying, roads[:at]))), roads[:at]))
        for claim, paper in claims:
            self.assertIs(holds(claim, paper), True, claim[0])
        self.assertEqual(max(map(lambda one: Fraction(*one), high)), Fraction(*most))
        self.assertEqual(high, heights(web, level))

    def test_webs(self):
        chance = random.Random(272)
        for web in list(several_webs())[::4]:
            self.check_web(chance, web)
        for turn in range(4):
            self.check_web(chance, great_web(chance))

    def test_a_loom_and_its_web(self):
        chance = random.Random(273)
        for turn in range(30):
            loom = busy_loom(chance, chance.randint(1, 12), chance.randint(0, 50))
            web, loaded, thick = loom.web(), loom.loads(), loom.thick()
            self.assertTrue(is_web(web))
            self.assertIs(holds(*paper_loom(loom)), True)
            self.assertIs(holds(*paper_densest(web, thick)), True)
            self.check_web(chance, web)
            top, bottom = share(web, densest(web))
            self.assertEqual(max(loaded), -(-top // bottom))
            # Laid whole, the threads are a laying of their web: the loads are those.
            amounts = {places: {place: 0 for place in places} for places, heavy in web[1]}
            for one, thread, place in loom.threads():
                amounts[thread][place] += 1
            laying = tuple(tuple(number(one) for one in amounts[places].values()) for places, heavy in web[1])
            self.assertEqual(loads(web, laying), tuple((load, 1) for load in loaded))

    def test_bounds_that_point_3_tells(self):
        chance = random.Random(274)
        for web in list(several_webs())[::3] + [great_web(chance) for turn in range(5)]:
            most_places = max([len(places) for places, heavy in web[1]], default=1)
            most = Fraction(*share(web, densest(web)))
            order, part = stripped(web)
            stripped_share = Fraction(*share(web, part))
            self.assertGreaterEqual(stripped_share * most_places, most)
            for core, height in zip(cores(web), level_heights(web)):
                self.assertTrue(Fraction(*height) <= Fraction(*core) <= most_places * Fraction(*height))
            laying = some_laying(chance, web)
            for measure in (some_measure(chance), some_measure(chance, 10 ** 6)):
                level_worth = Fraction(*worth(measure, web, level_laying(web)))
                self.assertLessEqual(level_worth, Fraction(*worth(measure, web, laying)))


if __name__ == "__main__":
    unittest.main()
