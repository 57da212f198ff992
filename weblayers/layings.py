"""Layings: how the weight of each tie lies on its places."""

from weblayers.errors import NoLaying
from weblayers.numbers import is_amount, is_less, parted, total
from weblayers.webs import need_web


def is_laying(web, thing):
    """Whether a thing of any kind is a laying of the web."""
    need_web(web)
    ties = web[1]
    if not isinstance(thing, tuple) or len(thing) != len(ties):
        return False
    return all(lays_tie(tie, amounts) for tie, amounts in zip(ties, thing))


def lays_tie(tie, thing):
    """Whether a thing of any kind is the amounts of this tie, one for each of its places."""
    places, heavy = tie
    if not isinstance(thing, tuple) or len(thing) != len(places):
        return False
    return all(is_amount(one) for one in thing) and total(thing) == (heavy, 1)


def need_laying(web, thing):
    if not is_laying(web, thing):
        raise NoLaying("no laying of the web")


def loads(web, laying):
    """What lies on each place."""
    need_laying(web, laying)
    lying = [[] for one in web[0]]
    for (places, heavy), amounts in zip(web[1], laying):
        for place, amount in zip(places, amounts):
            lying[place].append(amount)
    return tuple(total(amounts) for amounts in lying)


def heights(web, laying):
    """The load of each place, parted by its cost."""
    return tuple(parted(load, cost) for load, cost in zip(loads(web, laying), web[0]))


def is_level(web, laying):
    """Whether no tie lies on a place that is higher than another place of the tie."""
    high = heights(web, laying)
    return all(lies_low(tie[0], amounts, high) for tie, amounts in zip(web[1], laying))


def lies_low(places, amounts, high):
    bearing = [place for place, amount in zip(places, amounts) if amount[0] > 0]
    return not any(is_less(high[other], high[place]) for place in bearing for other in places)
