"""Measures: what a laying is worth by how far its places are above or below some heights."""

from weblayers.errors import NoMeasure
from weblayers.layings import heights
from weblayers.numbers import difference, is_above_nothing, is_amount, product, total
from weblayers.webs import need_web

ABOVE = "above"
BELOW = "below"
MOST_PARTS = 6


def is_measure(thing):
    """Whether a thing of any kind is a measure."""
    if not isinstance(thing, tuple) or not 1 <= len(thing) <= MOST_PARTS:
        return False
    return all(is_measure_part(one) for one in thing)


def is_measure_part(thing):
    if not isinstance(thing, tuple) or len(thing) != 3:
        return False
    side, point, heavy = thing
    if not isinstance(side, str) or side not in (ABOVE, BELOW):
        return False
    return is_amount(point) and is_above_nothing(heavy)


def worth(measure, web, laying):
    """What all places of a laying are worth together by the measure."""
    need_web(web)
    if not is_measure(measure):
        raise NoMeasure("no measure")
    return total([place_worth(measure, cost, high) for cost, high in zip(web[0], heights(web, laying))])


def place_worth(measure, cost, high):
    """What a place of this cost is worth at this height."""
    return product((cost, 1), total([part_worth(part, high) for part in measure]))


def part_worth(part, high):
    """What one part of a measure makes of a height, for each unit of cost."""
    side, point, heavy = part
    beyond = difference(high, point) if side == ABOVE else difference(point, high)
    return product(heavy, beyond) if is_above_nothing(beyond) else (0, 1)
