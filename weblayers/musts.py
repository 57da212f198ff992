"""The densest part among those that have some places in them, the musts.

Ties are laid on places that aren't among the musts, each with room for its cost times a share. What finds
no room, with the ties of musts alone, is what the best part with the musts weighs above this share of its
other places: where that is more than the share of the musts themselves, this part is denser.
"""

from weblayers.errors import NoPart
from weblayers.filling import Filling
from weblayers.numbers import is_less, lowest
from weblayers.webs import cost, is_part, need_web, share, weight


def need_musts(web, thing):
    need_web(web)
    if isinstance(thing, tuple) and not thing:
        return
    if not is_part(web, thing):
        raise NoPart("neither a part of the web nor no places")


def filled_at(web, musts, part):
    """The ties laid beside the musts, with room for the share of this part, all times what the part costs."""
    dear, heaviness = cost(web, part), weight(web, part)
    ties = [([place for place in places if place not in musts], heavy * dear) for places, heavy in web[1]]
    rooms = {place: price * heaviness for place, price in enumerate(web[0]) if place not in musts}
    return Filling(ties, rooms)


def settled(web, musts):
    """A part with the greatest share among those with the musts, and the filling at this share."""
    part = tuple(range(len(web[0])))
    filling = filled_at(web, musts, part)
    denser = with_overfull(musts, filling)
    # Each time the part costs less, so it takes no more turns than there are places.
    while denser and is_less(share(web, part), share(web, denser)):
        part = denser
        filling = filled_at(web, musts, part)
        denser = with_overfull(musts, filling)
    return part, filling


def with_overfull(musts, filling):
    return tuple(sorted(list(musts) + filling.overfull()))


def densest_with(web, musts):
    """The greatest of the parts with the greatest share among those that have the musts in them."""
    need_musts(web, musts)
    part, filling = settled(web, musts)
    return tuple(place for place in range(len(web[0])) if place in musts or not filling.has_way(place))


def bearing_with(web, musts):
    """A laying that shows that no part with the musts in it has a greater share."""
    need_musts(web, musts)
    part, filling = settled(web, musts)
    dear = cost(web, part)
    laying = []
    for (places, heavy), laid, waiting in zip(web[1], filling.laid, filling.waiting):
        units = [laid.get(place, 0) for place in places]
        # Where no room is left it's the same which place has too much.
        units[0] += waiting
        laying.append(tuple(lowest(one, dear) for one in units))
    return tuple(laying)
