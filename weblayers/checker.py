"""The checker: takes a claim with its paper, or doesn't.

It uses nothing that finds answers, so it needn't trust who found them: only what webs, parts and layings are, and
what is told here of each claim.
"""

from weblayers.checked_arrows import shows_flow
from weblayers.checked_looms import shows_loom, shows_loose
from weblayers.checked_roads import shows_leads
from weblayers.checked_webs import (
    shows_at_most, shows_core, shows_densest, shows_heights, shows_layers, shows_not_densest, shows_with,
)


def holds(claim, paper):
    """Whether a claim and its paper, things of any kind, are as they must be."""
    if not isinstance(claim, tuple) or not claim or not isinstance(claim[0], str):
        return False
    match claim:
        case ("densest", web, part):
            return shows_densest(web, part, paper)
        case ("not densest", web, part):
            return shows_not_densest(web, part, paper)
        case ("heights", web, high):
            return shows_heights(web, high, paper)
        case ("layers", web, layers):
            return shows_layers(web, layers, paper)
        case ("leads", web, laying, loads):
            return shows_leads(web, laying, loads, paper)
        case ("core", web, place, number):
            return shows_core(web, place, number, paper)
        case ("with", web, musts, part):
            return shows_with(web, musts, part, paper)
        case ("at most", web, size, weight):
            return shows_at_most(web, size, weight, paper)
        case ("flow", arrows, ones, others):
            return shows_flow(arrows, ones, others, paper)
        case ("loom", many, threads, places):
            return shows_loom(many, threads, places, paper)
        case ("loose", many, threads, places):
            return shows_loose(many, threads, places, paper)
        case _:
            return False
