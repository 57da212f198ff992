"""Papers: of each question the claim that is true, with the paper that shows it."""

from weblayers.arrows import splits, thickest_flow
from weblayers.cores import core_part, cores
from weblayers.densest import bearing, densest
from weblayers.layers import layers, level_heights, level_laying
from weblayers.layings import loads
from weblayers.musts import bearing_with, densest_with
from weblayers.numbers import is_less
from weblayers.roads import to_level
from weblayers.sizes import bound
from weblayers.strips import stripped
from weblayers.webs import share


def paper_densest(web, part):
    """That the part is densest, or that it isn't."""
    dense = share(web, part)
    best = densest(web)
    if is_less(dense, share(web, best)):
        return (("not densest", web, part), best)
    return (("densest", web, part), bearing(web))


def paper_heights(web):
    return (("heights", web, level_heights(web)), level_laying(web))


def paper_layers(web):
    return (("layers", web, layers(web)), level_laying(web))


def paper_leads(web, laying):
    """That roads lead from the laying to the loads of level layings."""
    roads = to_level(web, laying)
    return (("leads", web, laying, loads(web, level_laying(web))), roads)


def paper_core(web, place):
    part = core_part(web, place)
    order, left = stripped(web)
    taken = [one for one, number in order]
    # No place that is taken off ahead of this one has a degree by cost above its core.
    ahead = tuple(taken[:taken.index(place) + 1])
    return (("core", web, place, cores(web)[place]), (part, ahead))


def paper_with(web, musts):
    return (("with", web, musts, densest_with(web, musts)), bearing_with(web, musts))


def paper_size(web, size):
    """That no part with so many places has more weight than the bound, rounded down."""
    top, bottom = bound(web, size)
    return (("at most", web, size, top // bottom), level_laying(web))


def paper_flow(arrows):
    ones, others = thickest_flow(arrows)
    return (("flow", arrows, ones, others), splits(arrows))


def paper_loom(loom):
    """That the loom is level."""
    lying = loom.threads()
    threads = tuple(thread for number, thread, place in lying)
    places = tuple(place for number, thread, place in lying)
    return (("loom", len(loom.loads()), threads, places), None)
