"""Webs and their parts: what they are, and what a part weighs and costs."""

from weblayers.errors import NoPart, NoWeb
from weblayers.numbers import is_whole, is_whole_within, lowest

MOST_PLACES = 12
MOST_COST = 100
MOST_TIES = 30
MOST_PLACES_OF_TIE = 4
MOST_WEIGHT = 10 ** 6


def is_web(thing):
    """Whether a thing of any kind is a web."""
    if not isinstance(thing, tuple) or len(thing) != 2:
        return False
    costs, ties = thing
    return are_costs(costs) and are_ties(ties, len(costs))


def are_costs(thing):
    if not isinstance(thing, tuple) or not 1 <= len(thing) <= MOST_PLACES:
        return False
    return all(is_whole_within(one, 1, MOST_COST) for one in thing)


def are_ties(thing, many):
    """Whether a thing of any kind is the ties of a web of so many places."""
    if not isinstance(thing, tuple) or len(thing) > MOST_TIES:
        return False
    if not all(is_tie(one, many) for one in thing):
        return False
    # With the same places in one tie alone, ties rise just where their places do.
    return is_rising([places for places, heavy in thing])


def is_tie(thing, many):
    if not isinstance(thing, tuple) or len(thing) != 2:
        return False
    places, heavy = thing
    return are_tied_places(places, many) and is_whole_within(heavy, 1, MOST_WEIGHT)


def are_tied_places(thing, many):
    """Whether a thing of any kind is as many unlike places as a tie or a thread can have, rising."""
    return are_places(thing, many) and len(thing) <= MOST_PLACES_OF_TIE


def are_places(thing, many):
    """Whether a thing of any kind is a rising tuple of one or more unlike places of so many."""
    if not isinstance(thing, tuple) or not thing:
        return False
    return all(is_whole_within(one, 0, many - 1) for one in thing) and is_rising(thing)


def is_rising(things):
    """Whether each is above the one ahead, so that no two are alike."""
    return all(one < other for one, other in zip(things, things[1:]))


def need_web(thing):
    if not is_web(thing):
        raise NoWeb("no web")


def is_part(web, thing):
    """Whether a thing of any kind is a part of the web."""
    need_web(web)
    return are_places(thing, len(web[0]))


def need_part(web, thing):
    if not is_part(web, thing):
        raise NoPart("no part of the web")


def is_place(web, thing):
    """Whether a thing of any kind is a place of the web."""
    return is_whole_within(thing, 0, len(web[0]) - 1)


def need_place(web, thing):
    if not is_place(web, thing):
        raise NoPart("no place of the web")


def ties_within(web, part):
    """The ties whose places are all in the part."""
    return [tie for tie in web[1] if all(place in part for place in tie[0])]


def weight(web, part):
    need_part(web, part)
    return sum(heavy for places, heavy in ties_within(web, part))


def cost(web, part):
    need_part(web, part)
    return sum(web[0][place] for place in part)


def share(web, part):
    """The weight of a part, parted by its cost."""
    return lowest(weight(web, part), cost(web, part))


def degree(web, part, place):
    """The weight of the ties within the part that have this place of it."""
    need_part(web, part)
    if not is_whole(place) or place not in part:
        raise NoPart("no place of the part")
    return sum(heavy for places, heavy in ties_within(web, part) if place in places)
