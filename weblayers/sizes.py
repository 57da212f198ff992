"""The heaviest and the densest parts with some number of places."""

from weblayers.errors import NoSize
from weblayers.layers import level_laying
from weblayers.layings import loads
from weblayers.numbers import common_bottom, in_units, is_whole_within, lowest
from weblayers.webs import need_web


def need_size(web, thing):
    if not is_whole_within(thing, 1, len(web[0])):
        raise NoSize("no number of places that a part of the web can have")


def heaviest(web, size):
    """The greatest weight of a part with so many places, and all that have it."""
    need_web(web)
    need_size(web, size)
    parts = sized_parts(web, size, size)
    most = max(heavy for part, heavy in parts)
    return (most, tuple(part for part, heavy in parts if heavy == most))


def bound(web, size):
    """The greatest so many loads of a level laying together."""
    need_web(web)
    need_size(web, size)
    amounts = loads(web, level_laying(web))
    unit = common_bottom(amounts)
    units = sorted([in_units(one, unit) for one in amounts], reverse=True)
    return lowest(sum(units[:size]), unit)


def densest_sized(web, least, most):
    """The greatest share of a part with at least and at most so many places, and all that have it."""
    need_web(web)
    need_size(web, least)
    need_size(web, most)
    if most < least:
        raise NoSize("at most less places than at least")
    top, bottom = -1, 1
    chosen = []
    for part, heavy in sized_parts(web, least, most):
        dear = sum(web[0][place] for place in part)
        if heavy * bottom > top * dear:
            top, bottom = heavy, dear
            chosen = []
        if heavy * bottom == top * dear:
            chosen.append(part)
    return (lowest(top, bottom), tuple(chosen))


def sized_parts(web, least, most):
    """All parts with at least and at most so many places, rising, each with its weight."""
    costs, ties = web
    ending = [[tie for tie in ties if tie[0][-1] == place] for place in range(len(costs))]
    chosen = []
    parts = [((), 0)]
    for size in range(1, most + 1):
        parts = [
            grown(part, heavy, place, ending[place])
            for part, heavy in parts
            for place in range(part[-1] + 1 if part else 0, len(costs))
        ]
        if size >= least:
            chosen.extend(parts)
    return sorted(chosen)


def grown(part, heavy, place, ties):
    """A part and its weight with a place behind all of its own, where the ties that end there are these."""
    wider = (*part, place)
    return (wider, heavy + sum(more for places, more in ties if all(one in wider for one in places)))
