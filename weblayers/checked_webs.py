"""What shows the claims that are made of webs: papers of any kind, looked at by what webs and layings are alone."""

from weblayers.layings import heights, is_laying, is_level, loads
from weblayers.numbers import (
    common_bottom, difference, in_units, is_less, is_number, is_whole, is_whole_within, lowest, product, total,
)
from weblayers.webs import degree, is_part, is_place, is_web, share


def is_same(thing, told):
    """Whether a thing of any kind is just what is told, tuples of whole numbers; True is no 1."""
    if not isinstance(told, tuple):
        return is_whole(thing) and thing == told
    if not isinstance(thing, tuple) or len(thing) != len(told):
        return False
    return all(is_same(one, other) for one, other in zip(thing, told))


def is_laid(web, laying):
    """Whether these, of any kind, are a web and a laying of it."""
    return is_web(web) and is_laying(web, laying)


def shows_densest(web, part, laying):
    if not is_laid(web, laying) or not is_part(web, part):
        return False
    dense = share(web, part)
    return not any(is_less(dense, height) for height in heights(web, laying))


def shows_not_densest(web, part, denser):
    if not is_web(web) or not is_part(web, part) or not is_part(web, denser):
        return False
    return is_less(share(web, part), share(web, denser))


def shows_heights(web, high, laying):
    return is_laid(web, laying) and is_level(web, laying) and is_same(high, heights(web, laying))


def shows_layers(web, layers, laying):
    return is_laid(web, laying) and is_level(web, laying) and is_same(layers, by_height(heights(web, laying)))


def by_height(high):
    """The places of each height together with it, from the highest on down."""
    unit = common_bottom(high)
    units = [in_units(height, unit) for height in high]
    return tuple(
        (tuple(place for place, here in enumerate(units) if here == level), lowest(level, unit))
        for level in sorted(set(units))[::-1]
    )


def shows_core(web, place, number, paper):
    if not is_web(web) or not is_place(web, place) or not is_number(number):
        return False
    if not isinstance(paper, tuple) or len(paper) != 2:
        return False
    part, order = paper
    if not is_part(web, part) or place not in part:
        return False
    return has_degrees(web, part, number) and strips_to(web, place, number, order)


def has_degrees(web, part, number):
    """Whether each degree in the part is at least so many times the cost."""
    return not any(is_less((degree(web, part, place), 1), times_cost(web, number, place)) for place in part)


def strips_to(web, place, number, order):
    """Whether places go in this order, this one the last, and the degree of each is at most so many times its cost."""
    if not isinstance(order, tuple) or not order or not all(is_place(web, one) for one in order):
        return False
    if order[-1] != place or len(set(order)) != len(order):
        return False
    for at, one in enumerate(order):
        left = tuple(other for other in range(len(web[0])) if other not in order[:at])
        if is_less(times_cost(web, number, one), (degree(web, left, one), 1)):
            return False
    return True


def times_cost(web, number, place):
    return product(number, (web[0][place], 1))


def shows_with(web, musts, part, laying):
    if not is_laid(web, laying) or not are_musts(web, musts) or not is_part(web, part):
        return False
    if not all(place in part for place in musts):
        return False
    dense = share(web, part)
    # Below 0 where more lies on the place than share times cost.
    spare = [difference(times_cost(web, dense, place), load) for place, load in enumerate(loads(web, laying))]
    left = [spare[place] for place in musts]
    over = [number for place, number in enumerate(spare) if place not in musts and number[0] < 0]
    return total([*left, *over])[0] >= 0


def are_musts(web, thing):
    return is_part(web, thing) or (isinstance(thing, tuple) and not thing)


def shows_at_most(web, size, weight, laying):
    if not is_laid(web, laying) or not is_whole_within(size, 1, len(web[0])) or not is_whole(weight):
        return False
    lying = loads(web, laying)
    unit = common_bottom(lying)
    greatest = sorted([in_units(load, unit) for load in lying])[::-1][:size]
    return sum(greatest) < (weight + 1) * unit
