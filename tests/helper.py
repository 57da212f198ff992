"""What several tests need: odd things, changed things, webs, and answers found by going through all parts."""

import copy
import random
import sys
from fractions import Fraction
from itertools import combinations, product

from weblayers.errors import (
    NoArrows, NoCall, NoKept, NoLaying, NoMeasure, NoNumber, NoPart, NoRoad, NoSize, NoText, NoThread, NoWeb, WebError,
)
from weblayers.looms import Loom

REFUSALS = (
    NoWeb, NoPart, NoLaying, NoMeasure, NoRoad, NoSize, NoArrows, NoThread, NoNumber, NoText, NoCall, NoKept,
)
PAIRS = tuple(product(range(6), repeat=2))


class Touchy:
    """A thing that can't be compared, measured, counted out or asked for its truth."""

    def fail(self, *told):
        raise RuntimeError("touched")

    __eq__ = __ne__ = __lt__ = __le__ = __gt__ = __ge__ = __len__ = __iter__ = __bool__ = __getitem__ = fail
    __contains__ = __hash__ = __index__ = __int__ = __add__ = __radd__ = __sub__ = __rsub__ = fail


def nested(deep, make):
    thing = make([])
    for turn in range(deep - 1):
        thing = make([thing])
    return thing


def odd_things():
    """Things of many kinds, none of them a web, a part, a laying or a number."""
    return [
        None, True, False, -1, 10 ** 40, -10 ** 40, "", "a", "web", "0", "((1,), ())", b"", b"\x00\x01",
        [], {}, set(), frozenset(), frozenset([0]), {0}, [0], [0, 1], [[1], []], {0: 1}, {"costs": (1,), "ties": ()},
        range(1), range(3), iter((0,)), (place for place in (0,)), object(), Touchy(), Touchy, len, int, lambda: 0,
        Fraction(1, 2), 1j, Ellipsis, NotImplemented,
        (None,), (True,), (False,), ("0",), (b"",), ([],), ({},), (Touchy(),), (None, None), (True, True),
        ([], []), ({}, {}), ((), ()), ((), (), ()), ((((),),),), (Touchy(), Touchy()),
        nested(10, tuple), nested(10, list), {0: {0: {0: {0: {0: [(((),),)]}}}}},
    ]


def changed(thing, put_in):
    """The thing with one piece, at any depth, exchanged, left out or added."""
    for other in put_in:
        yield other
    if isinstance(thing, tuple):
        yield list(thing)
        for at, piece in enumerate(thing):
            yield thing[:at] + thing[at + 1:]
            yield thing[:at] + (piece, piece) + thing[at + 1:]
            for inner in changed(piece, put_in):
                yield thing[:at] + (inner,) + thing[at + 1:]
        for other in put_in:
            yield thing + (other,)
    elif isinstance(thing, int):
        yield thing + 1
        yield thing - 1
        yield str(thing)
        yield -thing


def plain_whole(thing):
    return type(thing) is int


def plain_places(thing, many):
    if type(thing) is not tuple or thing == () or not all(map(plain_whole, thing)):
        return False
    return list(thing) == sorted(set(thing)) and set(thing) <= set(range(many))


def plain_web(thing):
    """What a web is, written a second time."""
    if type(thing) is not tuple or len(thing) != 2 or type(thing[0]) is not tuple or type(thing[1]) is not tuple:
        return False
    costs, ties = thing
    if len(costs) not in range(1, 13) or len(ties) not in range(31):
        return False
    if not all(plain_whole(one) and one in range(1, 101) for one in costs):
        return False
    for tie in ties:
        if type(tie) is not tuple or len(tie) != 2 or not plain_places(tie[0], len(costs)) or len(tie[0]) > 4:
            return False
        if not plain_whole(tie[1]) or tie[1] not in range(1, 10 ** 6 + 1):
            return False
    return list(ties) == sorted(ties) and len(set(tie[0] for tie in ties)) == len(ties)


def all_parts(many):
    return [part for size in range(1, many + 1) for part in combinations(range(many), size)]


def number(fraction):
    fraction = Fraction(fraction)
    return (fraction.numerator, fraction.denominator)


def some_web(chance, many, most_ties, most_cost=100, most_weight=10 ** 6, sizes=(1, 2, 3, 4)):
    """A web of so many places, made by a random.Random."""
    sets = [part for size in sizes for part in combinations(range(many), size)]
    chosen = chance.sample(sets, min(len(sets), chance.randint(0, most_ties)))
    ties = tuple(sorted((places, chance.randint(1, most_weight)) for places in chosen))
    return (tuple(chance.randint(1, most_cost) for place in range(many)), ties)


def great_web(chance, sizes=(1, 2, 3, 4)):
    """Twelve places and thirty ties."""
    sets = [part for size in sizes for part in combinations(range(12), size)]
    ties = tuple(sorted((places, chance.randint(1, 10 ** 6)) for places in chance.sample(sets, 30)))
    return (tuple(chance.randint(1, 100) for place in range(12)), ties)


def rows():
    """Long rows of places, each tied to the next."""
    near = [(at, at + 1) for at in range(11)]
    yield ((1,) * 12, tuple((places, 1) for places in near))
    yield ((1,) * 12, tuple((places, 10 ** 6 - at) for at, places in enumerate(near)))
    yield (tuple(range(1, 13)), tuple((places, 5) for places in near))
    yield ((1,) * 12, (((0,), 10 ** 6),) + tuple((places, 10 ** 6) for places in near))
    yield ((100,) * 11 + (1,), tuple(sorted([((11,), 1)] + [(places, 10 ** 6) for places in near])))
    threes = [(at, at + 1, at + 2) for at in range(10)]
    yield ((7,) * 12, tuple(sorted([(places, 999983) for places in near] + [(places, 1) for places in threes])))
    falling = [(at, at + 1, at + 2, at + 3) for at in range(9)]
    yield ((3,) * 12, tuple((places, 10 ** (at % 7)) for at, places in enumerate(falling)))


def several_webs():
    """Small webs of many kinds, the same ones each time."""
    chance = random.Random(20)
    yield ((1,), ())
    yield ((5, 1, 7), ())
    yield ((100,), (((0,), 10 ** 6),))
    for many in (1, 2, 3, 4, 5):
        for turn in range(25):
            yield some_web(chance, many, 8, most_cost=1, most_weight=2)
            yield some_web(chance, many, 12, most_cost=4, most_weight=6)
            yield some_web(chance, many, 12)


def refusal_of(ask, *told):
    """The refusal with which the call is answered, None where it is answered otherwise."""
    try:
        ask(*told)
    except WebError as refusal:
        return refusal
    return None


def check_refused(test, kind, ask, *told):
    """The call is refused with this one of the refusals and none of the others."""
    refusal = refusal_of(ask, *told)
    test.assertEqual([one for one in REFUSALS if isinstance(refusal, one)], [kind])
    test.assertIsInstance(refusal, WebError)
    test.assertIsInstance(refusal, ValueError)


def pieces(thing):
    yield thing
    if isinstance(thing, tuple):
        for one in thing:
            yield from pieces(one)


def check_steady(test, ask, *told, kinds=(tuple, int)):
    """Asked again the answer is the same, of these kinds alone, and nothing handed in is changed."""
    kept = copy.deepcopy(told)
    first = ask(*told)
    first_kept = copy.deepcopy(first)
    for turn in range(3):
        test.assertEqual(ask(*copy.deepcopy(kept)), first_kept)
    test.assertEqual((ask(*told), first, told), (first_kept, first_kept, kept))
    test.assertLessEqual({type(one) for one in pieces(first)}, set(kinds))


def lines_run(ask, *told):
    """How many lines of the program are run."""
    many = 0

    def trace(frame, event, told):
        nonlocal many
        many += event == "line"
        return trace

    ahead = sys.gettrace()
    sys.settrace(trace)
    try:
        ask(*told)
    finally:
        sys.settrace(ahead)
    return many


def plain_laying(web, thing):
    """What a laying is, written a second time."""
    if type(thing) is not tuple or len(thing) != len(web[1]):
        return False
    for (places, weight), amounts in zip(web[1], thing):
        if type(amounts) is not tuple or len(amounts) != len(places):
            return False
        for one in amounts:
            if type(one) is not tuple or len(one) != 2 or not all(map(plain_whole, one)) or one[0] < 0 or one[1] < 1:
                return False
            if number(Fraction(*one)) != one:
                return False
        if sum(Fraction(*one) for one in amounts) != weight:
            return False
    return True


def some_laying(chance, web, bottoms=(1, 2, 3, 7, 12)):
    """A laying of the web, made by a random.Random."""
    laying = []
    for places, weight in web[1]:
        bottom = chance.choice(bottoms)
        cuts = sorted(chance.randint(0, weight * bottom) for place in places[1:])
        amounts = [high - low for low, high in zip([0] + cuts, cuts + [weight * bottom])]
        laying.append(tuple(number(Fraction(amount, bottom)) for amount in amounts))
    return tuple(laying)


def plain_heights(web, laying):
    """Heights as fractions, place by place."""
    return [
        sum(
            (Fraction(*amounts[tie[0].index(place)]) for tie, amounts in zip(web[1], laying) if place in tie[0]),
            Fraction(0),
        ) / price
        for place, price in enumerate(web[0])
    ]


def plain_level(web, laying):
    """What level is, written a second time."""
    high = plain_heights(web, laying)
    return all(
        amount == (0, 1) or high[place] == min(high[other] for other in places)
        for (places, weight), amounts in zip(web[1], laying)
        for place, amount in zip(places, amounts)
    )


def one_sided_layings(web):
    """Each tie on its first place alone, and on its last one alone."""
    for at in (0, -1):
        yield tuple(
            tuple((heavy, 1) if place == places[at] else (0, 1) for place in places) for places, heavy in web[1]
        )


def some_measure(chance, most_top=40, most_bottom=6):
    """A measure, made by a random.Random."""
    return tuple(
        (
            chance.choice(("above", "below")),
            number(Fraction(chance.randint(0, most_top), chance.randint(1, most_bottom))),
            number(Fraction(chance.randint(1, most_top), chance.randint(1, most_bottom))),
        )
        for part in range(chance.randint(1, 6))
    )


class AllParts:
    """All sets of places of a web, as bits, with their weights and costs."""

    def __init__(self, web):
        self.many = len(web[0])
        self.whole = (1 << self.many) - 1
        self.weights = [0] * (self.whole + 1)
        self.costs = [0] * (self.whole + 1)
        for places, weight in web[1]:
            self.weights[sum(1 << place for place in places)] += weight
        for place in range(self.many):
            for bits in range(self.whole + 1):
                if bits >> place & 1:
                    self.weights[bits] += self.weights[bits ^ 1 << place]
                    self.costs[bits] += web[0][place]

    def part(self, bits):
        return tuple(place for place in range(self.many) if bits >> place & 1)

    def best(self, done=0):
        """The most weight for its cost that comes to the set, and all sets of other places with which it does."""
        top, bottom, sets = -1, 1, []
        bits = left = self.whole ^ done
        while bits:
            comes, dear = self.weights[done | bits] - self.weights[done], self.costs[bits]
            if comes * bottom > top * dear:
                top, bottom, sets = comes, dear, []
            if comes * bottom == top * dear:
                sets.append(bits)
            bits = bits - 1 & left
        return number(Fraction(top, bottom)), sets

    def greatest(self, sets):
        """The one that has all of the others within."""
        bits = max(sets, key=lambda one: bin(one).count("1"))
        assert all(one & bits == one for one in sets)
        return bits

    def densest(self):
        return self.part(self.greatest(self.best()[1]))

    def least_densest(self):
        sets = self.best()[1]
        least = [one for one in sets if not any(other & one == other and other != one for other in sets)]
        return tuple(sorted(self.part(one) for one in least))

    def layers(self):
        told, done = [], 0
        while done != self.whole:
            height, sets = self.best(done)
            bits = self.greatest(sets)
            told.append((self.part(bits), height))
            done |= bits
        return tuple(told)


def tiny_webs():
    """All webs of up to three places with every choice of ties of weights 1 and 2, costs alike and unlike."""
    for costs, heavies in (((3,), (0, 1, 2)), ((1, 1), (0, 1, 2)), ((2, 3), (0, 1, 2)), ((1, 1, 1), (0, 1)), ((1, 2, 3), (0, 1, 3))):
        sets = sorted(all_parts(len(costs)))
        for weights in product(heavies, repeat=len(sets)):
            yield (costs, tuple((places, weight) for places, weight in zip(sets, weights) if weight))


def great_webs():
    """Webs of twelve places, with ties of many kinds, and long rows."""
    chance = random.Random(12)
    for sizes in ((1, 2, 3, 4), (2,), (3,), (4,), (1, 2), (1, 4), (2, 3)):
        for turn in range(3):
            yield great_web(chance, sizes)
    pairs = list(combinations(range(12), 2))[:30]
    yield ((100,) * 12, tuple((places, 10 ** 6) for places in pairs))
    yield ((1,) * 12, tuple((places, 10 ** 6) for places in pairs))
    yield (tuple(range(89, 101)), tuple((places, 2 ** (at % 20)) for at, places in enumerate(pairs)))
    yield ((1,) * 12, ())
    for web in rows():
        yield web


def plain_arrows(thing):
    """What arrows are, written a second time."""
    if type(thing) is not tuple or len(thing) != 2 or not plain_whole(thing[0]) or thing[0] not in range(1, 7):
        return False
    many, ways = thing
    if type(ways) is not tuple or len(ways) not in range(21):
        return False
    for way in ways:
        if type(way) is not tuple or len(way) != 3 or not all(map(plain_whole, way)):
            return False
        if way[0] not in range(many) or way[1] not in range(many) or way[2] not in range(1, 10 ** 6 + 1):
            return False
    return list(ways) == sorted(ways) and len(set(way[:2] for way in ways)) == len(ways)


def plain_split(arrows, thing):
    """A split is a laying of each way on its two ends."""
    return plain_laying(((1,), tuple(((0, 1), way[2]) for way in arrows[1])), thing)


def most_square_share(arrows):
    """The greatest square share, by going through all sets of places."""
    many, ways = arrows
    most = Fraction(0)
    sets = all_parts(many)
    for ones in sets:
        comes = [sum(way[2] for way in ways if way[0] in ones and way[1] == place) for place in range(many)]
        for others in sets:
            flows = sum(comes[place] for place in others)
            most = max(most, Fraction(flows * flows, len(ones) * len(others)))
    return most


def some_arrows(chance, many, most_ways=20, most_weight=10 ** 6):
    pairs = list(product(range(many), repeat=2))
    chosen = sorted(chance.sample(pairs, min(len(pairs), chance.randint(0, most_ways))))
    return (many, tuple((start, goal, chance.randint(1, most_weight)) for start, goal in chosen))


def great_arrows(chance, most_weight=10 ** 6):
    """Six places and twenty ways."""
    return (6, tuple((start, goal, chance.randint(1, most_weight)) for start, goal in sorted(chance.sample(PAIRS, 20))))


def plain_road(web, thing):
    """What a road is, written a second time."""
    if type(thing) is not tuple or len(thing) != 2 or type(thing[0]) is not tuple or thing[0] == ():
        return False
    places = []
    for step in thing[0]:
        if type(step) is not tuple or len(step) != 3 or not all(map(plain_whole, step)):
            return False
        if step[0] not in range(len(web[1])) or not set(step[1:]) <= set(web[1][step[0]][0]):
            return False
        if places and places[-1] != step[1]:
            return False
        places = (places or [step[1]]) + [step[2]]
    amount = thing[1]
    if type(amount) is not tuple or len(amount) != 2 or not all(map(plain_whole, amount)) or min(amount) < 1:
        return False
    return len(set(places)) == len(places) and number(Fraction(*amount)) == amount


def plain_gone(web, laying, roads):
    """The laying behind these roads, or the number of the first that is none or can't be gone."""
    lying = [dict(zip(tie[0], map(lambda one: Fraction(*one), amounts))) for tie, amounts in zip(web[1], laying)]
    for at, road in enumerate(roads):
        if not plain_road(web, road):
            return at
        for tie, start, goal in road[0]:
            lying[tie][start] -= Fraction(*road[1])
            lying[tie][goal] += Fraction(*road[1])
            if lying[tie][start] < 0:
                return at
        now = tuple(tuple(number(row[place]) for place in tie[0]) for tie, row in zip(web[1], lying))
        high = plain_heights(web, now)
        if high[road[0][0][1]] < high[road[0][-1][2]]:
            return at
    return tuple(tuple(number(row[place]) for place in tie[0]) for tie, row in zip(web[1], lying))


def some_road(chance, web):
    """A road of the web, whether it can be gone or not; None where none was found."""
    ties = [at for at, tie in enumerate(web[1]) if len(tie[0]) > 1]
    if not ties:
        return None
    tie = chance.choice(ties)
    here, goal = chance.sample(web[1][tie][0], 2)
    steps, met = [(tie, here, goal)], [here, goal]
    while chance.random() < 0.6:
        onward = [
            (at, met[-1], other) for at in ties if met[-1] in web[1][at][0] for other in web[1][at][0] if other not in met
        ]
        if not onward:
            break
        steps.append(chance.choice(onward))
        met.append(steps[-1][2])
    amount = Fraction(chance.randint(1, 12), chance.randint(1, 6))
    return (tuple(steps), number(amount))


def plain_cores(web):
    """The core of each place and the greatest part that shows it, by going through all parts."""
    parts = AllParts(web)
    best = [(Fraction(-1), 0)] * parts.many
    for bits in range(1, parts.whole + 1):
        places = parts.part(bits)
        least = min(
            Fraction(parts.weights[bits] - parts.weights[bits ^ 1 << place], web[0][place]) for place in places
        )
        for place in places:
            if least > best[place][0]:
                best[place] = (least, 0)
            if least == best[place][0]:
                best[place] = (least, best[place][1] | bits)
    return tuple(number(core) for core, bits in best), [parts.part(bits) for core, bits in best]


def plain_with(parts, musts):
    """The greatest share with the musts and the greatest part that has it, by going through all parts."""
    within = sum(1 << place for place in musts)
    sets = [bits for bits in range(1, parts.whole + 1) if bits & within == within]
    most = max(Fraction(parts.weights[bits], parts.costs[bits]) for bits in sets)
    best = [bits for bits in sets if parts.weights[bits] == most * parts.costs[bits]]
    return most, parts.part(parts.greatest(best))


def plain_heaviest(parts, size):
    sized = {part: parts.weights[sum(1 << place for place in part)] for part in combinations(range(parts.many), size)}
    most = max(sized.values())
    return (most, tuple(sorted(part for part in sized if sized[part] == most)))


def plain_thread(thing, many):
    return plain_places(thing, many) and len(thing) <= 4


def some_thread(chance, many):
    return tuple(sorted(chance.sample(range(many), chance.randint(1, min(4, many)))))


def plain_loads(many, laid):
    """How many of the threads, pairs (thread, place), lie on each place."""
    return [sum(place == here for thread, place in laid) for here in range(many)]


def plain_reach(laid, start):
    """All places to which chains lead from one, it among them."""
    met = {start}
    while True:
        more = met.union(*(thread for thread, place in laid if place in met))
        if more == met:
            return met
        met = more


def plain_level_loom(many, laid):
    """What level is of a loom, written a second time."""
    loads = plain_loads(many, laid)
    return all(loads[start] - loads[goal] < 2 for start in range(many) for goal in plain_reach(laid, start))


def plain_chain(laid, thing):
    """Whether a thing of any kind is a chain of the threads laid so, a dict of (thread, place) by number; () is one."""
    if type(thing) is not tuple:
        return False
    here, places, numbers = None, [], []
    for swap in thing:
        if type(swap) is not tuple or len(swap) != 3 or not all(map(plain_whole, swap)):
            return False
        number, start, goal = swap
        if number not in laid or laid[number][1] != start or goal not in laid[number][0]:
            return False
        if here not in (None, start):
            return False
        places = (places or [start]) + [goal]
        numbers.append(number)
        here = goal
    return len(set(places)) == len(places) and len(set(numbers)) == len(numbers)


def busy_loom(chance, many, deeds, takes=0.4):
    """A loom behind so many deeds, made by a random.Random."""
    loom = Loom(many)
    for deed in range(deeds):
        lying = loom.threads()
        if lying and (len(lying) == 30 or chance.random() < takes):
            loom.take(chance.choice(lying)[0])
        else:
            loom.put(some_thread(chance, many))
    return loom
