"""What shows that a flow is the thickest: a split for each two numbers of places."""

from weblayers.numbers import common_bottom, in_units, is_amount, is_whole, is_whole_within, total
from weblayers.webs import MOST_WEIGHT, are_places, is_rising

MOST_ENDS = 6
MOST_WAYS = 20


def shows_flow(arrows, ones, others, paper):
    if not are_arrows(arrows):
        return False
    many, ways = arrows
    if not are_places(ones, many) or not are_places(others, many) or not is_square(paper, many):
        return False
    flowing = sum(heavy for start, goal, heavy in ways if start in ones and goal in others)
    # The square share of the claim: top and bottom, in lowest terms or not.
    most = (flowing * flowing, len(ones) * len(others))
    return all(
        is_split(ways, split) and bears(arrows, split, (s, t), most)
        for s, row in enumerate(paper, start=1)
        for t, split in enumerate(row, start=1)
    )


def are_arrows(thing):
    if not isinstance(thing, tuple) or len(thing) != 2 or not is_whole_within(thing[0], 1, MOST_ENDS):
        return False
    many, ways = thing
    if not isinstance(ways, tuple) or len(ways) > MOST_WAYS or not all(leads_within(many, way) for way in ways):
        return False
    return is_rising([way[:2] for way in ways])


def leads_within(many, way):
    """Whether a thing of any kind is a way from one of so many places to another one or the same."""
    if not isinstance(way, tuple) or len(way) != 3 or not all(is_whole(one) for one in way):
        return False
    return 0 <= way[0] < many and 0 <= way[1] < many and 1 <= way[2] <= MOST_WEIGHT


def is_square(thing, many):
    """Whether a thing of any kind is a tuple of so many tuples of so many things each."""
    if not isinstance(thing, tuple) or len(thing) != many:
        return False
    return all(isinstance(row, tuple) and len(row) == many for row in thing)


def is_split(ways, thing):
    if not isinstance(thing, tuple) or len(thing) != len(ways):
        return False
    return all(parts_way(way[2], pair) for way, pair in zip(ways, thing))


def parts_way(heavy, pair):
    if not isinstance(pair, tuple) or len(pair) != 2 or not all(is_amount(one) for one in pair):
        return False
    return total(pair) == (heavy, 1)


def bears(arrows, split, sizes, most):
    """Whether the split shows that so many places to so many have no greater square share than this."""
    many, ways = arrows
    s, t = sizes
    unit = common_bottom([one for pair in split for one in pair])
    begun, ended = [0] * many, [0] * many
    for (start, goal, heavy), (ahead, behind) in zip(ways, split):
        begun[start] += in_units(ahead, unit)
        ended[goal] += in_units(behind, unit)
    greatest = s * max(begun) + t * max(ended)
    top, bottom = most
    return greatest * greatest * bottom <= top * s * t * unit * unit
