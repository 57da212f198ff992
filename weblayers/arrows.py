"""Webs of arrows: how much flows from some places to others.

Each place is taken twice, as one where ways begin and as one where they end, and each way as a tie of
two such places. Where beginnings cost t each and ends s, a share is the flow parted by t times how many
beginnings and s times how many ends there are. 4 * s * t times this share times itself is at most the
square share, and just as much where there are s beginnings to t ends. So one of the densest parts for all
s and t has the greatest square share, and layings that bear no more than the densest parts are the splits.
"""

from weblayers.densest import bearing, densest
from weblayers.errors import NoArrows, NoPart
from weblayers.numbers import common_divisor, is_less, is_whole_within, lowest
from weblayers.webs import MOST_WEIGHT, are_places, is_rising

MOST_ARROW_PLACES = 6
MOST_WAYS = 20


def is_arrows(thing):
    """Whether a thing of any kind is arrows."""
    if not isinstance(thing, tuple) or len(thing) != 2:
        return False
    many, ways = thing
    return is_whole_within(many, 1, MOST_ARROW_PLACES) and are_ways(ways, many)


def are_ways(thing, many):
    if not isinstance(thing, tuple) or len(thing) > MOST_WAYS:
        return False
    if not all(is_way(one, many) for one in thing):
        return False
    # With the same two in one way alone, ways rise just where their places do.
    return is_rising([(start, goal) for start, goal, heavy in thing])


def is_way(thing, many):
    if not isinstance(thing, tuple) or len(thing) != 3:
        return False
    start, goal, heavy = thing
    if not is_whole_within(start, 0, many - 1) or not is_whole_within(goal, 0, many - 1):
        return False
    return is_whole_within(heavy, 1, MOST_WEIGHT)


def need_arrows(thing):
    if not is_arrows(thing):
        raise NoArrows("no arrows")


def flow(arrows, ones, others):
    """The weight of all ways from the ones to the others."""
    need_arrows(arrows)
    many, ways = arrows
    if not are_places(ones, many) or not are_places(others, many):
        raise NoPart("no set of places of the arrows")
    return sum(heavy for start, goal, heavy in ways if start in ones and goal in others)


def square_share(arrows, ones, others):
    """The flow times itself, parted by how many the ones are times how many the others are."""
    weight = flow(arrows, ones, others)
    return lowest(weight * weight, len(ones) * len(others))


def thickest_flow(arrows):
    """Two sets of places, from the one to the other, with the greatest square share."""
    need_arrows(arrows)
    best = ((0,), (0,))
    most = square_share(arrows, (0,), (0,))
    for ratio in ratios(arrows[0]):
        ones, others = densest_sides(arrows, ratio)
        here = square_share(arrows, ones, others)
        if is_less(most, here):
            best, most = (ones, others), here
    return best


def splits(arrows):
    """For each s and each t a split that shows how little can flow from s places to t."""
    need_arrows(arrows)
    sizes = range_from_1(arrows[0])
    by_ratio = {ratio: bearing(doubled(arrows, ratio)) for ratio in ratios(arrows[0])}
    return tuple(tuple(by_ratio[lowest(s, t)] for t in sizes) for s in sizes)


def range_from_1(many):
    return list(range(1, many + 1))


def ratios(many):
    """All (s, t) from 1 to so many that no whole number above 1 divides both."""
    return [(s, t) for s in range_from_1(many) for t in range_from_1(many) if common_divisor(s, t) == 1]


def doubled(arrows, ratio):
    """The web of beginnings, each at a cost of t, then of ends, each at s; its layings are splits."""
    many, ways = arrows
    s, t = ratio
    ties = tuple(((start, many + goal), heavy) for start, goal, heavy in ways)
    return ((t,) * many + (s,) * many, ties)


def densest_sides(arrows, ratio):
    """The beginnings and the ends of the densest part at this ratio."""
    many = arrows[0]
    part = densest(doubled(arrows, ratio))
    return tuple(place for place in part if place < many), tuple(place - many for place in part if place >= many)
