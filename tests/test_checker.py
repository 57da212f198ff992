import ast
import copy
import pathlib
import random
import subprocess
import sys
import unittest
from fractions import Fraction

from tests.helper import (
    AllParts, all_parts, changed, great_web, most_square_share, number, odd_things, plain_arrows, plain_chain, plain_cores,
    plain_gone, plain_heaviest, plain_heights, plain_laying, plain_level, plain_level_loom, plain_loads, plain_places,
    plain_split, plain_thread, plain_web, plain_whole, plain_with, several_webs, some_arrows, some_laying, some_road,
    some_thread, some_web,
)
from weblayers.arrows import splits, thickest_flow
from weblayers.checker import holds
from weblayers.cores import core_part, cores
from weblayers.densest import bearing, densest
from weblayers.layers import layers, level_heights, level_laying
from weblayers.musts import bearing_with, densest_with
from weblayers.roads import gone, to_level

ROOT = pathlib.Path(__file__).resolve().parent.parent
OTHER_STAGES = {"densest", "layers", "measures", "roads", "strips", "cores", "musts", "sizes", "arrows", "looms"}
WEB = ((1, 1, 2), (((0,), 2), ((0, 1), 3), ((0, 1, 2), 1)))
LEVEL = (((2, 1),), ((1, 2), (5, 2)), ((0, 1), (0, 1), (1, 1)))
STEEP = (((2, 1),), ((3, 2), (3, 2)), ((1, 3), (1, 3), (1, 3)))
ROADS = ((((1, 0, 1), (2, 1, 2)), (1, 4)), (((2, 0, 2),), (1, 3)), (((1, 0, 1),), (1, 2)))
ARROWS = (2, ((0, 1, 5),))
EVEN = (((5, 2), (5, 2)),)
SPLITS = ((EVEN, (((3, 1), (2, 1)),)), ((((2, 1), (3, 1)),), EVEN))
THREADS = ((0,), (0, 1), (1, 2))
# One claim of each word or more, each with a paper that shows it.
EXAMPLES = (
    (("densest", WEB, (0, 1)), LEVEL),
    (("not densest", WEB, (0,)), (0, 1)),
    (("not densest", WEB, (1, 2)), (0, 1, 2)),
    (("heights", WEB, ((5, 2), (5, 2), (1, 2))), LEVEL),
    (("layers", WEB, (((0, 1), (5, 2)), ((2,), (1, 2)))), LEVEL),
    (("leads", WEB, STEEP, ((11, 4), (7, 3), (11, 12))), ROADS),
    (("leads", WEB, STEEP, ((23, 6), (11, 6), (1, 3))), ()),
    (("core", WEB, 2, (1, 2)), ((0, 1, 2), (2,))),
    (("core", WEB, 0, (3, 1)), ((0, 1), (2, 1, 0))),
    (("with", WEB, (2,), (0, 1, 2)), LEVEL),
    (("with", WEB, (), (0, 1)), LEVEL),
    (("at most", WEB, 1, 2), LEVEL),
    (("at most", WEB, 2, 5), LEVEL),
    (("flow", ARROWS, (0,), (1,)), SPLITS),
    (("flow", (1, ()), (0,), (0,)), (((),),)),
    (("loom", 3, THREADS, (0, 1, 2)), None),
    (("loom", 2, (), ()), None),
    (("loose", 3, THREADS, (0, 0, 1)), ((1, 0, 1), (2, 1, 2))),
)
WORDS = ("densest", "not densest", "heights", "layers", "leads", "core", "with", "at most", "flow", "loom", "loose")


def fraction(one):
    return Fraction(*one)


def plain_number(thing):
    if type(thing) is not tuple or len(thing) != 2 or not all(map(plain_whole, thing)) or thing[1] < 1:
        return False
    return number(Fraction(*thing)) == thing


def plain_part(web, thing):
    return plain_places(thing, len(web[0]))


def plain_share(web, part):
    inside = sum(heavy for places, heavy in web[1] if set(places) <= set(part))
    return Fraction(inside, sum(web[0][place] for place in part))


def plain_degree(web, part, place):
    return sum(heavy for places, heavy in web[1] if place in places and set(places) <= set(part))


def all_plain(told, shape):
    """Whether a thing of any kind is a tuple of numbers alone, as many as told."""
    return type(told) is tuple and len(told) == shape and all(map(plain_number, told))


def plain_layers(web, high):
    return tuple(
        (tuple(place for place in range(len(high)) if high[place] == level), number(level))
        for level in sorted(set(high), reverse=True)
    )


def is_just(thing, told):
    """The same things of the same kinds."""
    if type(thing) is not type(told):
        return False
    if type(told) is tuple:
        return len(thing) == len(told) and all(map(is_just, thing, told))
    return thing == told


def plain_densest(paper, web, part):
    if not plain_part(web, part) or not plain_laying(web, paper):
        return False
    return max(plain_heights(web, paper)) <= plain_share(web, part)


def plain_not_densest(paper, web, part):
    if not plain_part(web, part) or not plain_part(web, paper):
        return False
    return plain_share(web, part) < plain_share(web, paper)


def plain_high(paper, web, high):
    if not plain_laying(web, paper) or not plain_level(web, paper) or not all_plain(high, len(web[0])):
        return False
    return [fraction(one) for one in high] == plain_heights(web, paper)


def plain_layered(paper, web, told):
    if not plain_laying(web, paper) or not plain_level(web, paper):
        return False
    return is_just(told, plain_layers(web, plain_heights(web, paper)))


def plain_leads(paper, web, laying, goal):
    if not plain_laying(web, laying) or type(paper) is not tuple or not all_plain(goal, len(web[0])):
        return False
    behind = plain_gone(web, laying, paper)
    if not isinstance(behind, tuple):
        return False
    return [high * price for high, price in zip(plain_heights(web, behind), web[0])] == [fraction(one) for one in goal]


def plain_core(paper, web, place, core):
    if not plain_part(web, (place,)) or not plain_number(core) or type(paper) is not tuple or len(paper) != 2:
        return False
    part, order = paper
    if not plain_part(web, part) or place not in part or type(order) is not tuple or not order:
        return False
    if not all(plain_part(web, (one,)) for one in order) or len(set(order)) != len(order) or order[-1] != place:
        return False
    core = fraction(core)
    if not all(plain_degree(web, part, one) >= core * web[0][one] for one in part):
        return False
    places = range(len(web[0]))
    return all(
        plain_degree(web, [other for other in places if other not in order[:at]], one) <= core * web[0][one]
        for at, one in enumerate(order)
    )


def plain_with_musts(paper, web, musts, part):
    if not (plain_part(web, musts) or type(musts) is tuple and musts == ()) or not plain_part(web, part):
        return False
    if not set(musts) <= set(part) or not plain_laying(web, paper):
        return False
    most = plain_share(web, part)
    above = [(high - most) * price for high, price in zip(plain_heights(web, paper), web[0])]
    beside = sum(max(one, 0) for place, one in enumerate(above) if place not in musts)
    return beside <= -sum(above[place] for place in musts)


def plain_at_most(paper, web, size, weight):
    if not plain_whole(size) or size not in range(1, len(web[0]) + 1) or not plain_whole(weight):
        return False
    if not plain_laying(web, paper):
        return False
    loads = sorted(high * price for high, price in zip(plain_heights(web, paper), web[0]))
    return sum(loads[-size:]) < weight + 1


def plain_flow(paper, arrows, ones, others):
    if not plain_arrows(arrows) or not plain_places(ones, arrows[0]) or not plain_places(others, arrows[0]):
        return False
    many, ways = arrows
    if type(paper) is not tuple or len(paper) != many:
        return False
    flows = sum(heavy for start, goal, heavy in ways if start in ones and goal in others)
    most = Fraction(flows ** 2, len(ones) * len(others))
    for s, row in enumerate(paper, 1):
        if type(row) is not tuple or len(row) != many:
            return False
        for t, split in enumerate(row, 1):
            if not plain_split(arrows, split):
                return False
            begins, ends = [0] * many, [0] * many
            for (start, goal, heavy), (one, other) in zip(ways, split):
                begins[start] += fraction(one)
                ends[goal] += fraction(other)
            if (s * max(begins) + t * max(ends)) ** 2 > most * s * t:
                return False
    return True


def plain_laid(many, threads, places):
    """The threads with their places, None where they aren't such."""
    if not plain_whole(many) or many not in range(1, 13) or type(threads) is not tuple or type(places) is not tuple:
        return None
    if len(threads) > 30 or len(threads) != len(places):
        return None
    for thread, place in zip(threads, places):
        if not plain_thread(thread, many) or not plain_whole(place) or place not in thread:
            return None
    return list(zip(threads, places))


def plain_loom(paper, many, threads, places):
    laid = plain_laid(many, threads, places)
    return paper is None and laid is not None and plain_level_loom(many, laid)


def plain_loose(paper, many, threads, places):
    laid = plain_laid(many, threads, places)
    if laid is None or not plain_chain(dict(enumerate(laid)), paper) or paper == ():
        return False
    loads = plain_loads(many, laid)
    return loads[paper[0][1]] - loads[paper[-1][2]] >= 2


PLAIN = {
    "densest": (3, plain_densest), "not densest": (3, plain_not_densest), "heights": (3, plain_high),
    "layers": (3, plain_layered), "leads": (4, plain_leads), "core": (4, plain_core), "with": (4, plain_with_musts),
    "at most": (4, plain_at_most), "flow": (4, plain_flow), "loom": (4, plain_loom), "loose": (4, plain_loose),
}


def plain_holds(claim, paper):
    """What the checker takes, written a second time."""
    if type(claim) is not tuple or claim == () or type(claim[0]) is not str or claim[0] not in PLAIN:
        return False
    many, looked_at = PLAIN[claim[0]]
    if len(claim) != many or claim[0] not in ("flow", "loom", "loose") and not plain_web(claim[1]):
        return False
    return looked_at(paper, *claim[1:])


def is_so(claim):
    """Whether a claim of a small web, arrows or loom is true, by going through all there is."""
    word, *told = claim
    if word in ("densest", "not densest"):
        web, part = told
        return (number(plain_share(web, part)) == AllParts(web).best()[0]) == (word == "densest")
    if word == "layers":
        return AllParts(told[0]).layers() == told[1]
    if word == "heights":
        high = {place: height for part, height in AllParts(told[0]).layers() for place in part}
        return tuple(high[place] for place in sorted(high)) == told[1]
    if word == "core":
        web, place, core = told
        return plain_cores(web)[0][place] == core
    if word == "with":
        web, musts, part = told
        return set(musts) <= set(part) and plain_with(AllParts(web), musts)[0] == plain_share(web, part)
    if word == "at most":
        web, size, weight = told
        return plain_heaviest(AllParts(web), size)[0] <= weight
    if word == "flow":
        arrows, ones, others = told
        flows = sum(heavy for start, goal, heavy in arrows[1] if start in ones and goal in others)
        return Fraction(flows ** 2, len(ones) * len(others)) == most_square_share(arrows)
    many, threads, places = told
    return plain_level_loom(many, list(zip(threads, places))) == (word == "loom")


def listed(thing):
    """The thing with one tuple, at any depth, written as a list."""
    if isinstance(thing, tuple):
        yield list(thing)
        for at, piece in enumerate(thing):
            for inner in listed(piece):
                yield thing[:at] + (inner,) + thing[at + 1:]


def truthful(thing):
    """The thing with one 0 or 1, at any depth, written as a truth."""
    if isinstance(thing, tuple):
        for at, piece in enumerate(thing):
            for inner in truthful(piece):
                yield thing[:at] + (inner,) + thing[at + 1:]
    elif thing in (0, 1):
        yield bool(thing)


def put_at(thing, way, piece):
    """The thing with another piece at the end of a way of indexes."""
    if not way:
        return piece
    at = way[0]
    return thing[:at] + (put_at(thing[at], way[1:], piece),) + thing[at + 1:]


def ways_to_numbers(thing, ahead=()):
    """The ways of indexes to all numbers with a bottom in a laying, roads, heights and the like."""
    if isinstance(thing, tuple):
        if plain_number(thing):
            yield ahead
        for at, piece in enumerate(thing):
            yield from ways_to_numbers(piece, ahead + (at,))


def piece_at(thing, way):
    for at in way:
        thing = thing[at]
    return thing


class Checks(unittest.TestCase):
    def check(self, told, claim, paper):
        self.assertIs(holds(claim, paper), told)
        self.assertIs(plain_holds(claim, paper), told)

    def check_alike(self, claim, paper):
        told = plain_holds(claim, paper)
        self.assertIs(holds(claim, paper), told)
        return told


class Taken(Checks):
    def test_each_word(self):
        self.assertEqual({claim[0] for claim, paper in EXAMPLES}, set(WORDS))
        self.assertEqual(set(PLAIN), set(WORDS))
        for claim, paper in EXAMPLES:
            with self.subTest(claim=claim):
                self.check(True, claim, paper)

    def test_of_other_claims_the_paper_is_none(self):
        taken = 0
        for claim, one in EXAMPLES:
            for other, paper in EXAMPLES:
                taken += self.check_alike(claim, paper)
        # Besides its own one each level laying shows what the others of this web show.
        self.assertGreater(taken, len(EXAMPLES))
        for claim, paper in EXAMPLES:
            if claim[0] not in ("leads", "loom", "flow"):
                self.check(False, claim, ())
            if claim[0] != "loom":
                self.check(False, claim, None)

    def test_another_word(self):
        for claim, paper in EXAMPLES:
            for word in WORDS + ("", "Densest", "densest ", " loom", "dens", "atmost", "at  most", "not", "so"):
                self.check_alike((word,) + claim[1:], paper)
            for word in odd_things() + [0, 1, ("densest",), ["densest"], b"densest", {"densest": 1}, None]:
                self.check(False, (word,) + claim[1:], paper)

    def test_a_list_for_a_tuple(self):
        for claim, paper in EXAMPLES:
            for thing in listed(claim):
                self.check(False, thing, paper)
            for thing in listed(paper):
                self.check(False, claim, thing)

    def test_a_truth_for_a_number(self):
        many = 0
        for claim, paper in EXAMPLES:
            for thing in truthful(claim):
                self.check(False, thing, paper)
                many += 1
            for thing in truthful(paper):
                self.check(False, claim, thing)
                many += 1
        self.assertGreater(many, 200)

    def test_a_number_not_in_lowest_terms(self):
        for claim, paper in EXAMPLES:
            for at in [way for way in ways_to_numbers(claim) if way[0] != 1 and claim[0] not in ("loom", "loose")]:
                top, bottom = piece_at(claim, at)
                for times in (2, 3, -1, 10 ** 30, 0):
                    self.check(False, put_at(claim, at, (top * times, bottom * times)), paper)
            if claim[0] in ("not densest", "core", "loom", "loose"):
                continue
            for at in ways_to_numbers(paper):
                top, bottom = piece_at(paper, at)
                for times in (2, 3, -1, 10 ** 30, 0):
                    self.check(False, claim, put_at(paper, at, (top * times, bottom * times)))

    def test_things_of_other_kinds_at_every_depth(self):
        for claim, paper in EXAMPLES:
            for thing in changed(claim, odd_things()):
                self.check_alike(thing, paper)
            for thing in changed(paper, odd_things()):
                self.check_alike(claim, thing)

    def test_near_things_at_every_depth(self):
        put_in = (
            0, 1, 2, 3, 4, 5, 6, -1, (), (0,), (1,), (2,), (0, 1), (1, 2), (0, 2), (0, 1, 2), (1, 3), (3, 2), (5, 2), (1, 1),
            (1, 0, 1), (0, 0, 1), (0, 1, 2), ((0, 1), 2), ((0, 1),), WEB, LEVEL, "densest", 10 ** 6, 10 ** 6 + 1, 100, 101,
        )
        taken = 0
        for claim, paper in EXAMPLES:
            for thing in changed(claim, put_in):
                taken += self.check_alike(thing, paper)
            for thing in changed(paper, put_in):
                taken += self.check_alike(claim, thing)
        self.assertGreater(taken, 50)

    def test_parts_too_few_and_too_many(self):
        for claim, paper in EXAMPLES:
            for many in range(len(claim)):
                self.check(False, claim[:many], paper)
            for more in odd_things() + [(), 0, claim[-1], paper]:
                self.check(False, claim + (more,), paper)
                self.check(False, claim[:1] + (more,) + claim[1:], paper)
            self.check(False, (claim, paper), paper)
            self.check(False, (claim,), paper)

    def test_things_of_any_kind(self):
        things = odd_things() + [0, 1, (), ("densest",), EXAMPLES[0], EXAMPLES[0][0], LEVEL, WEB]
        for one in things:
            for other in things:
                self.check_alike(one, other)
        for word in WORDS:
            for one in things:
                self.check(False, (word, one, one), one)
                self.check(False, (word, one, one, one), one)
                for other in (WEB, ARROWS, 3):
                    self.check_alike((word, other, one), one)
                    self.check_alike((word, other, one, one), one)

    def test_nothing_is_changed(self):
        for claim, paper in EXAMPLES:
            kept = copy.deepcopy((claim, paper))
            odd = list(claim), [paper]
            for turn in range(3):
                self.assertIs(holds(claim, paper), True)
                self.assertIs(holds(*odd), False)
                self.assertIs(holds(claim, odd), False)
            self.assertEqual((claim, paper), kept)
            self.assertEqual(odd, (list(kept[0]), [kept[1]]))


class Webs(Checks):
    def test_densest(self):
        web = ((1, 1, 1), (((0,), 10), ((1, 2), 4)))
        for left in (Fraction(0), Fraction(1, 3), Fraction(2), Fraction(4), Fraction(1, 10 ** 60), 4 - Fraction(1, 10 ** 60)):
            laying = (((10, 1),), (number(left), number(4 - left)))
            self.check(True, ("densest", web, (0,)), laying)
            self.check(False, ("densest", web, (1, 2)), laying)
            self.check(False, ("densest", web, (0, 1, 2)), laying)
        # Just as high as the share is taken, and no more.
        web = ((1, 2), (((0, 1), 3),))
        self.check(True, ("densest", web, (0, 1)), (((1, 1), (2, 1)),))
        for great in (1, 10 ** 3, 10 ** 100):
            for sign in (1, -1):
                more = Fraction(sign, great + 1)
                self.check(False, ("densest", web, (0, 1)), ((number(1 + more), number(2 - more)),))

    def test_not_densest(self):
        for part in all_parts(3):
            for other in all_parts(3):
                self.check_alike(("not densest", WEB, part), other)
                self.check(False, ("not densest", WEB, (0, 1)), other)
            self.check(False, ("not densest", WEB, part), part)

    def test_heights_and_layers(self):
        high = ((5, 2), (5, 2), (1, 2))
        self.check(False, ("heights", WEB, high), STEEP)
        self.check(False, ("layers", WEB, (((0, 1), (5, 2)), ((2,), (1, 2)))), STEEP)
        # These are the heights of the laying, but it isn't level.
        self.check(False, ("heights", WEB, ((23, 6), (11, 6), (1, 6))), STEEP)
        self.check(False, ("layers", WEB, (((0,), (23, 6)), ((1,), (11, 6)), ((2,), (1, 6)))), STEEP)
        for told in (
            (((2,), (1, 2)), ((0, 1), (5, 2))), (((1, 0), (5, 2)), ((2,), (1, 2))), (((0, 1), (5, 2)),),
            (((0,), (5, 2)), ((1,), (5, 2)), ((2,), (1, 2))), (((0, 1), (5, 2)), ((2,), (1, 2)), ((), (0, 1))),
            (((0, 1), (1, 2)), ((2,), (5, 2))), (((0, 1, 2), (5, 2)),), ((0, 1), (5, 2), (2,), (1, 2)),
        ):
            self.check(False, ("layers", WEB, told), LEVEL)
        bare = ((3, 1), ())
        self.check(True, ("heights", bare, ((0, 1), (0, 1))), ())
        self.check(True, ("layers", bare, (((0, 1), (0, 1)),)), ())
        self.check(False, ("layers", bare, (((0,), (0, 1)), ((1,), (0, 1)))), ())

    def test_any_level_laying_will_do(self):
        web = ((1, 1, 1), (((0, 1), 2), ((0, 2), 2), ((1, 2), 2)))
        for turn in (Fraction(-1), Fraction(0), Fraction(1, 3), Fraction(1, 7 ** 90), Fraction(1)):
            back, forth = number(1 - turn), number(1 + turn)
            laying = ((forth, back), (back, forth), (forth, back))
            self.check(True, ("heights", web, ((2, 1),) * 3), laying)
            self.check(True, ("layers", web, (((0, 1, 2), (2, 1)),)), laying)

    def test_leads(self):
        claim, roads = EXAMPLES[5]
        word, web, laying, goal = claim
        for many in range(len(roads)):
            self.check(False, claim, roads[:many])
            self.check(False, claim, roads[many + 1:])
        self.check_alike(claim, roads[::-1])
        behind = plain_gone(web, laying, roads)
        loads = tuple(number(high * price) for high, price in zip(plain_heights(web, behind), web[0]))
        self.assertEqual(loads, goal)
        # A road that takes more than lies there, one to a place that would come higher, one with a place twice.
        self.check(False, (word, web, laying, ((17, 6), (17, 6), (1, 3))), ((((1, 0, 1),), (1, 1)), ((((1, 1, 0),), (1, 1)))))
        self.check(False, (word, web, LEVEL, ((2, 1), (3, 1), (1, 1))), ((((1, 0, 1),), (1, 2)),))
        self.check(False, (word, web, LEVEL, ((1, 1), (4, 1), (1, 1))), ((((1, 0, 1),), (3, 2)),))
        self.check(False, (word, web, laying, ((23, 6), (11, 6), (1, 3))), ((((1, 0, 1), (2, 1, 0)), (1, 3)),))
        self.check(False, (word, web, laying, ((23, 6), (11, 6), (1, 3))), (((), (1, 3)),))

    def test_many_roads(self):
        web = ((1, 1), (((0, 1), 2),))
        small = (1, 10 ** 40)
        roads = ((((0, 0, 1),), small),) * 500
        left = Fraction(500, 10 ** 40)
        claim = ("leads", web, (((2, 1), (0, 1)),), (number(2 - left), number(left)))
        self.check(True, claim, roads)
        self.check(False, claim, roads[1:])
        self.check(False, claim, roads + roads[:1])

    def test_core(self):
        claim, (part, order) = EXAMPLES[8]
        for other in all_parts(3) + [()]:
            for row in ((2, 1, 0), (2, 0), (0,), (1, 2, 0), (1, 0), (2, 1, 1, 0), (0, 2, 1, 0), (2, 1, 0, 0), (), (2, 1)):
                self.check_alike(claim, (other, row))
        for core in ((3, 1), (2, 1), (4, 1), (-3, 1), (3 * 10 ** 50 + 1, 10 ** 50), (3 * 10 ** 50 - 1, 10 ** 50), (0, 1)):
            self.check(core == (3, 1), ("core", WEB, 0, core), (part, order))
        bare = ((5, 1), ())
        self.check(True, ("core", bare, 1, (0, 1)), ((1,), (1,)))
        self.check(True, ("core", bare, 1, (0, 1)), ((0, 1), (0, 1)))
        self.check(False, ("core", bare, 1, (0, 1)), ((0,), (1,)))
        self.check(False, ("core", bare, 1, (-1, 1)), ((1,), (1,)))

    def test_with(self):
        for part in all_parts(3):
            for musts in all_parts(3) + [()]:
                for laying in (LEVEL, STEEP, bearing_with(WEB, musts)):
                    self.check_alike(("with", WEB, musts, part), laying)
        # What lies on the must itself above share times cost counts too.
        web = ((1, 1), (((0,), 1), ((1,), 9)))
        self.check(True, ("with", web, (0,), (0, 1)), (((1, 1),), ((9, 1),)))
        self.check(False, ("with", web, (0,), (0,)), (((1, 1),), ((9, 1),)))
        web = ((1, 1, 1), (((0, 1), 8),))
        self.check(True, ("with", web, (2,), (0, 1, 2)), (((4, 1), (4, 1)),))
        self.check(False, ("with", web, (2,), (0, 1, 2)), (((8, 1), (0, 1)),))
        self.check(False, ("with", web, (0,), (0, 1, 2)), (((4, 1), (4, 1)),))
        self.check(True, ("with", web, (0,), (0, 1)), (((4, 1), (4, 1)),))
        self.check(False, ("with", web, (0,), (0, 1)), (((5, 1), (3, 1)),))
        self.check(True, ("with", web, (0,), (0, 1)), (((3, 1), (5, 1)),))
        self.check(False, ("with", web, (0,), (1,)), (((3, 1), (5, 1)),))
        self.check(False, ("with", web, (0,), (1, 2)), (((3, 1), (5, 1)),))

    def test_at_most(self):
        for size in range(-1, 6):
            for weight in range(-2, 9):
                for laying in (LEVEL, STEEP):
                    self.check_alike(("at most", WEB, size, weight), laying)
        self.check(True, ("at most", WEB, 2, 10 ** 90), LEVEL)
        self.check(False, ("at most", WEB, 2, -10 ** 90), LEVEL)
        self.check(False, ("at most", WEB, 10 ** 90, 10 ** 90), LEVEL)
        # Less than the weight and 1, not as much.
        web = ((1, 1), (((0, 1), 3),))
        for great in (2, 10 ** 50):
            for part, told in ((Fraction(1), False), (1 - Fraction(1, great), True), (1 + Fraction(1, great), False)):
                self.check(told, ("at most", web, 1, 1), ((number(1 + part), number(2 - part)),))
        self.check(False, ("at most", web, 2, 2), (((1, 1), (2, 1)),))
        self.check(True, ("at most", web, 2, 3), (((1, 1), (2, 1)),))

    def test_numbers_of_any_size(self):
        great = 7 ** 4000
        web = ((1, 1, 1), (((0,), 10), ((1, 2), 4)))
        laying = (((10, 1),), ((1, great), (4 * great - 1, great)))
        self.check(True, ("densest", web, (0,)), laying)
        self.check(False, ("densest", web, (0,)), (((10, 1),), ((1, great), (4 * great + 1, great))))
        loads = ((10, 1), (2 * great - 1, great), (2 * great + 1, great))
        roads = ((((1, 2, 1),), (2 * great - 2, great)),)
        self.check(True, ("leads", web, laying, loads), roads)
        self.check(False, ("leads", web, laying, loads), ((((1, 2, 1),), (2 * great - 3, great)),))
        for claim, paper in EXAMPLES:
            for thing in changed(claim, (great, -great, (great, 1), (1, great), (great, great + 1))):
                self.check_alike(thing, paper)
            for thing in changed(paper, (great, -great, (great, 1), (1, great), (great, great + 1))):
                self.check_alike(claim, thing)


class Flows(Checks):
    def test_flow(self):
        for ones in all_parts(2):
            for others in all_parts(2):
                self.check((ones, others) == ((0,), (1,)), ("flow", ARROWS, ones, others), SPLITS)
        claim = ("flow", ARROWS, (0,), (1,))
        for s in range(2):
            for t in range(2):
                for top in range(11):
                    split = ((number(Fraction(top, 2)), number(5 - Fraction(top, 2))),)
                    self.check_alike(claim, put_at(SPLITS, (s, t), split))
        self.check(False, claim, tuple(zip(*SPLITS)))
        self.check(False, claim, SPLITS[::-1])
        self.check(False, claim, SPLITS[:1])
        self.check(False, claim, SPLITS + SPLITS[:1])
        self.check(False, claim, (SPLITS[0] + SPLITS[0][:1], SPLITS[1]))

    def test_just_as_much_and_no_more(self):
        arrows = (2, ((0, 0, 4), (1, 0, 4)))
        # Two places to one: the square share is 32, so 2 * A + B may be 8 and no more.
        paper = splits(arrows)
        self.check(True, ("flow", arrows, (0, 1), (0,)), paper)
        # Split unlike, however little, 2 * A + B is above 8.
        for great in (10 ** 3, 10 ** 60):
            more = Fraction(1, great)
            split = ((number(more), number(4 - more)), ((0, 1), (4, 1)))
            self.check(False, ("flow", arrows, (0, 1), (0,)), put_at(paper, (1, 0), split))
        for split in ((((0, 1), (4, 1)),) * 2, (((1, 1), (3, 1)),) * 2, (((4, 1), (0, 1)),) * 2):
            self.check_alike(("flow", arrows, (0, 1), (0,)), put_at(paper, (1, 0), split))
        self.check(False, ("flow", arrows, (0,), (0,)), paper)

    def test_without_ways_any_two(self):
        for many in range(1, 7):
            for ones in all_parts(many)[::5]:
                for others in all_parts(many)[::7]:
                    self.check(True, ("flow", (many, ()), ones, others), (((),) * many,) * many)
        self.check(False, ("flow", (7, ()), (0,), (0,)), (((),) * 7,) * 7)

    def test_what_is_told_and_what_is_near(self):
        chance = random.Random(220)
        taken = 0
        for turn in range(40):
            arrows = some_arrows(chance, chance.randint(1, 4), most_weight=(2, 10 ** 6)[turn % 2])
            ones, others = thickest_flow(arrows)
            paper = splits(arrows)
            self.check(True, ("flow", arrows, ones, others), paper)
            for ones in all_parts(arrows[0]):
                for others in all_parts(arrows[0]):
                    claim = ("flow", arrows, ones, others)
                    told = self.check_alike(claim, paper)
                    self.assertTrue(not told or is_so(claim))
                    taken += told
        self.assertGreater(taken, 40)

    def test_the_greatest(self):
        ways = tuple((start, goal, 10 ** 6) for start in range(4) for goal in range(5))
        arrows = (6, ways)
        paper = splits(arrows)
        self.check(True, ("flow", arrows, (0, 1, 2, 3), (0, 1, 2, 3, 4)), paper)
        self.check(False, ("flow", arrows, (0, 1, 2, 3), (0, 1, 2, 3)), paper)
        # One way more, which would make nothing thicker.
        more = tuple(tuple(split + (((1, 2), (1, 2)),) for split in row) for row in paper)
        self.check(False, ("flow", (6, ways + ((4, 5, 1),)), (0, 1, 2, 3), (0, 1, 2, 3, 4)), more)
        fewer = tuple(tuple(split[1:] + (((1, 2), (1, 2)),) for split in row) for row in paper)
        self.check_alike(("flow", (6, ways[1:] + ((4, 5, 1),)), (0, 1, 2, 3), (0, 1, 2, 3, 4)), fewer)

    def papers_of_three(self, heavy, extra):
        """For three places the splits of a way of this weight, made of both of its amounts by extra."""
        # How many twelfths of it lie on its beginning, by s and t.
        begun = ((6, 8, 8), (4, 6, 7), (4, 5, 6))
        return tuple(
            tuple(extra(number(Fraction(heavy * one, 12)), number(heavy - Fraction(heavy * one, 12))) for one in row)
            for row in begun
        )

    def test_what_is_no_arrows(self):
        alone = lambda one, other: ((one, other),)
        for heavy, told in ((1, True), (5, True), (10 ** 6, True), (10 ** 6 + 1, False), (10 ** 50, False)):
            self.check(told, ("flow", (3, ((0, 1, heavy),)), (0,), (1,)), self.papers_of_three(heavy, alone))
        none, first, second = ((0, 1), (0, 1)), ((1, 1), (0, 1)), ((0, 1), (1, 1))
        for ways, extra, told in (
            (((0, 1, 50), (2, 2, 1)), lambda one, other: ((one, other), first), True),
            (((-1, 1, 1), (0, 1, 50)), lambda one, other: (first, (one, other)), False),
            (((0, -1, 1), (0, 1, 50)), lambda one, other: (second, (one, other)), False),
            (((0, 1, 50), (3, 1, 1)), lambda one, other: ((one, other), first), False),
            (((0, 1, 50), (2, 3, 1)), lambda one, other: ((one, other), first), False),
            (((0, 0, 0), (0, 1, 50)), lambda one, other: (none, (one, other)), False),
            (((0, 1, 50), (2, 2, 1), (2, 2, 2)), lambda one, other: ((one, other), first, ((1, 1), (1, 1))), False),
            (((0, 1, 50), (2, 2, 1), (2, 1, 1)), lambda one, other: ((one, other), first, first), False),
        ):
            self.check(told, ("flow", (3, ways), (0,), (1,)), self.papers_of_three(50, extra))


class Looms(Checks):
    def test_loom_or_loose(self):
        chance = random.Random(221)
        level, loose = 0, 0
        for turn in range(400):
            many = chance.randint(1, 12)
            threads = tuple(some_thread(chance, many) for one in range(chance.randint(0, 14)))
            places = tuple(chance.choice(thread) for thread in threads)
            told = self.check_alike(("loom", many, threads, places), None)
            chain = self.find_chain(many, threads, places)
            self.assertIs(told, chain is None)
            level += told
            if chain is not None:
                loose += 1
                self.check(True, ("loose", many, threads, places), chain)
                for thing in changed(chain, (0, 1, 2, ())):
                    self.check_alike(("loose", many, threads, places), thing)
        self.assertGreater(level, 30)
        self.assertGreater(loose, 30)

    def find_chain(self, many, threads, places):
        """A chain to a load two or more less, by going through all chains; None where there is none."""
        loads = plain_loads(many, list(zip(threads, places)))
        pending = [((), (place,)) for place in range(many)]
        met = set()
        while pending:
            chain, row = pending.pop(0)
            if chain and loads[row[0]] - loads[row[-1]] >= 2:
                return chain
            if (row[0], row[-1]) in met:
                continue
            met.add((row[0], row[-1]))
            for at, thread in enumerate(threads):
                if places[at] == row[-1]:
                    for goal in thread:
                        if goal not in row:
                            pending.append((chain + ((at, row[-1], goal),), row + (goal,)))
        return None

    def test_long_chains(self):
        for many in range(3, 13):
            threads = ((0,),) + tuple((at, at + 1) for at in range(many - 1))
            places = (0,) + tuple(range(many - 1))
            chain = tuple((at + 1, at, at + 1) for at in range(many - 1))
            for order in (1, -1):
                # Whatever order the threads stand in.
                rows = list(enumerate(zip(threads, places)))[::order]
                turned = {old: new for new, (old, row) in enumerate(rows)}
                laid = tuple(row[0] for old, row in rows), tuple(row[1] for old, row in rows)
                swaps = tuple((turned[at], start, goal) for at, start, goal in chain)
                self.check(True, ("loose", many, *laid), swaps)
                self.check(False, ("loom", many, *laid), None)
                self.check(False, ("loose", many, *laid), swaps[:-1])
                self.check(False, ("loose", many, *laid), swaps[1:])
                self.check(False, ("loose", many, *laid), swaps[::-1])

    def test_a_load_one_less_is_level(self):
        self.check(True, ("loom", 2, ((0, 1),), (0,)), None)
        self.check(False, ("loose", 2, ((0, 1),), (0,)), ((0, 0, 1),))
        self.check(False, ("loom", 2, ((0, 1), (0, 1)), (0, 0)), None)
        self.check(True, ("loose", 2, ((0, 1), (0, 1)), (0, 0)), ((0, 0, 1),))
        self.check(True, ("loose", 2, ((0, 1), (0, 1)), (0, 0)), ((1, 0, 1),))
        self.check(True, ("loom", 2, ((0,), (0,)), (0, 0)), None)

    def test_what_is_no_chain(self):
        threads = ((0,), (0,), (0, 1), (0, 1, 2), (1, 2), (1, 2))
        claim = ("loose", 4, threads, (0, 0, 0, 0, 1, 1))
        for chain, told in (
            (((2, 0, 1),), True), (((3, 0, 1),), True), (((3, 0, 2),), True), (((2, 0, 1), (4, 1, 2)), True),
            (((3, 0, 1), (5, 1, 2)), True), ((), False), (((4, 1, 2),), True), (((0, 0, 1),), False), (((2, 0, 2),), False),
            (((2, 0, 0),), False), (((2, 1, 0),), False), (((3, 0, 1), (3, 1, 2)), False), (((2, 0, 1), (2, 1, 0)), False),
            (((4, 1, 2), (2, 0, 1)), False), (((2, 0, 1), (3, 0, 2)), False), (((6, 0, 1),), False), (((-4, 0, 1),), False),
            (((2, 0, 3),), False), ((2, 0, 1), False), (((2, 0, 1), (4, 1, 2), (4, 2, 1)), False), (((2, 0, 1, 0),), False),
        ):
            self.check(told, claim, chain)

    def test_what_is_no_loom(self):
        for many in (0, 13, -1, True, None, "3", 2, (3,), 10 ** 40):
            self.check(False, ("loom", many, THREADS, (0, 1, 2)), None)
        for many in range(3, 13):
            self.check(True, ("loom", many, THREADS, (0, 1, 2)), None)
        for threads, places in (
            (THREADS, (0, 1)), (THREADS, (0, 1, 2, 2)), (THREADS, (1, 1, 2)), (THREADS, (0, 2, 2)), ((), (0,)),
            (((0, 1, 2, 3, 4),), (0,)), (((1, 0),), (0,)), (((0, 0),), (0,)), (((),), (0,)), (((5,),), (5,)),
        ):
            self.check(False, ("loom", 5, threads, places), None)
        for paper in odd_things()[1:] + [0, (), ((1, 0, 1),)]:
            self.check(False, ("loom", 3, THREADS, (0, 1, 2)), paper)

    def test_the_most_threads(self):
        for many in (29, 30, 31):
            threads = tuple((at % 12,) for at in range(many))
            places = tuple(at % 12 for at in range(many))
            self.check(many <= 30, ("loom", 12, threads, places), None)
            threads = ((0, 11),) * many
            self.check(many <= 30, ("loose", 12, threads, (0,) * many), ((many - 1, 0, 11),))
            self.check(False, ("loom", 12, threads, (0,) * many), None)


class WhateverItTakesIsSo(Checks):
    """Claims and papers that chance makes: what is taken is true, and what is as told is taken."""

    def papers(self, chance, web):
        """Layings, told, moved a little and otherwise."""
        yield level_laying(web)
        yield bearing_with(web, ())
        yield some_laying(chance, web)
        laying = level_laying(web)
        for turn in range(3):
            road = some_road(chance, web)
            if road is not None:
                moved = plain_gone(web, laying, ((road[0], (1, 12)),))
                laying = moved if isinstance(moved, tuple) else laying
        yield laying

    def claims(self, chance, web):
        many = len(web[0])
        parts = all_parts(many)
        for part in [densest(web)] + chance.sample(parts, min(3, len(parts))):
            yield ("densest", web, part)
            for musts in ((), chance.choice(parts)):
                yield ("with", web, musts, part)
                yield ("with", web, musts, densest_with(web, musts))
        yield ("heights", web, level_heights(web))
        yield ("layers", web, layers(web))
        size = chance.randint(1, many)
        heavy = plain_heaviest(AllParts(web), size)[0]
        for weight in (heavy - 1, heavy, heavy + 1):
            yield ("at most", web, size, weight)

    def test_claims_of_webs(self):
        chance = random.Random(222)
        taken, refused = 0, 0
        for web in list(several_webs())[::2]:
            papers = list(self.papers(chance, web))
            for claim in self.claims(chance, web):
                so = is_so(claim)
                for paper in papers:
                    told = self.check_alike(claim, paper)
                    self.assertTrue(so or not told)
                    taken += told
                    refused += not told
        self.assertGreater(taken, 1500)
        self.assertGreater(refused, 1500)

    def test_not_densest(self):
        chance = random.Random(223)
        for web in several_webs():
            for part in all_parts(len(web[0])):
                claim = ("not densest", web, part)
                self.assertIs(self.check_alike(claim, densest(web)), is_so(claim))
                self.check_alike(claim, chance.choice(all_parts(len(web[0]))))

    def test_cores(self):
        chance = random.Random(224)
        for web in several_webs():
            many = len(web[0])
            place = chance.randrange(many)
            for core in set(cores(web)) | {(0, 1), (1, 1)}:
                claim = ("core", web, place, core)
                so = is_so(claim)
                for turn in range(6):
                    order = chance.sample(range(many), chance.randint(0, many))
                    order = tuple([one for one in order if one != place] + [place])
                    for part in (core_part(web, place), chance.choice(all_parts(many))):
                        told = self.check_alike(claim, (part, order))
                        self.assertTrue(so or not told)

    def test_leads(self):
        chance = random.Random(225)
        for at, web in enumerate(several_webs()):
            laying = some_laying(chance, web)
            roads = to_level(web, laying)
            for many in (0, len(roads) // 2, len(roads)):
                behind = gone(web, laying, roads[:many])
                loads = tuple(number(high * price) for high, price in zip(plain_heights(web, behind), web[0]))
                self.check(True, ("leads", web, laying, loads), roads[:many])
                for other in range(len(roads) + 1):
                    self.check_alike(("leads", web, laying, loads), roads[:other])
            road = some_road(chance, web)
            if road is not None:
                self.check_alike(("leads", web, laying, loads), roads + (road,))
                self.check_alike(("leads", web, laying, loads), (road,) + roads)

    def test_great_webs(self):
        chance = random.Random(226)
        for turn in range(12):
            web = great_web(chance)
            laying, level = some_laying(chance, web), level_laying(web)
            part = densest(web)
            self.check(True, ("densest", web, part), bearing(web))
            self.check(False, ("densest", web, part), laying)
            self.check(True, ("layers", web, layers(web)), level)
            self.check(False, ("layers", web, layers(web)), laying)
            self.check(True, ("heights", web, level_heights(web)), level)
            self.check(True, ("with", web, (3, 9), densest_with(web, (3, 9))), bearing_with(web, (3, 9)))
            loads = tuple(number(fraction(high) * price) for high, price in zip(level_heights(web), web[0]))
            self.check(True, ("leads", web, laying, loads), to_level(web, laying))
            self.check(False, ("leads", web, laying, loads), to_level(web, laying)[1:])

    def test_more_places_or_ties_than_a_web_has(self):
        web = some_web(random.Random(227), 12, 30)
        more = (web[0] + (1,), web[1])
        self.check(True, ("heights", web, level_heights(web)), level_laying(web))
        self.check(False, ("heights", more, level_heights(web) + ((0, 1),)), level_laying(web))
        bare = ((1,) * 13, ())
        self.check(False, ("densest", bare, (0,)), ())
        ties = tuple(((place,), 1) for place in range(10)) + tuple(((place, 11), 1) for place in range(10))
        self.check(False, ("densest", ((1,) * 12, ties), (0,)), tuple(((1, 1),) for tie in ties))


class Apart(unittest.TestCase):
    def imported(self, stem):
        tree = ast.parse((ROOT / "weblayers" / (stem + ".py")).read_text())
        return [one.module.split(".")[1] for one in ast.walk(tree) if isinstance(one, ast.ImportFrom)]

    def test_it_imports_nothing_of_other_stages(self):
        met, pending = set(), ["checker"]
        while pending:
            stem = pending.pop()
            if stem not in met:
                met.add(stem)
                pending += self.imported(stem)
        self.assertEqual(met & OTHER_STAGES, set())
        # Nor what those are built on.
        self.assertEqual(met & {"chains", "filling", "levelling"}, set())

    def test_it_works_where_the_other_stages_are_not(self):
        code = (
            "import sys\n"
            f"for name in {sorted(OTHER_STAGES)}:\n"
            "    sys.modules['weblayers.' + name] = None\n"
            "from weblayers.checker import holds\n"
            f"print([holds(*one) for one in {EXAMPLES!r}])\n"
        )
        run = subprocess.run([sys.executable, "-c", code], cwd=ROOT, capture_output=True, text=True)
        self.assertEqual((run.stdout, run.stderr), (str([True] * len(EXAMPLES)) + "\n", ""))


if __name__ == "__main__":
    unittest.main()
