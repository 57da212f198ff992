"""Cores: how dense the parts are that a place can be in, by the degrees of all of their places."""

from weblayers.numbers import is_less
from weblayers.strips import stripped
from weblayers.webs import need_place, need_web


def cores(web):
    """The core of each place."""
    order, part = stripped(web)
    reached = {}
    most = (0, 1)
    # Those left when a new most comes up all have so much; and of a part with more none could have been taken off.
    for place, number in order:
        if is_less(most, number):
            most = number
        reached[place] = most
    return tuple(reached[place] for place in range(len(order)))


def core_part(web, place):
    """The greatest part in which each place's degree is at least the core of this place times its cost."""
    need_web(web)
    need_place(web, place)
    told = cores(web)
    return tuple(other for other in range(len(told)) if not is_less(told[other], told[place]))
