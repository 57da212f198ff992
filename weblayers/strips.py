"""Stripping a web: its places taken off one after another, the lightest for its cost first."""

from weblayers.numbers import is_less, lowest
from weblayers.webs import need_web, ties_within


def stripped(web):
    """The places as they are taken off, with their degrees by cost, and the stripped part."""
    need_web(web)
    costs = web[0]
    left = list(range(len(costs)))
    order = []
    part, most = (), (-1, 1)
    while left:
        ties = ties_within(web, left)
        dense = lowest(sum(heavy for places, heavy in ties), sum(costs[place] for place in left))
        if is_less(most, dense):
            part, most = tuple(left), dense
        taken = lightest(costs, ties, left)
        order.append(taken)
        left.remove(taken[0])
    return (tuple(order), part)


def lightest(costs, ties, left):
    """The first place whose degree by cost is least, with this number; the ties are all within those left."""
    degrees = {place: 0 for place in left}
    for places, heavy in ties:
        for place in places:
            degrees[place] += heavy
    least = (left[0], lowest(degrees[left[0]], costs[left[0]]))
    for place in left[1:]:
        number = lowest(degrees[place], costs[place])
        if is_less(number, least[1]):
            least = (place, number)
    return least
