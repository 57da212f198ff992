"""Whole numbers, and numbers as tuples (top, bottom) in lowest terms."""


def is_whole(thing):
    """Whether a thing of any kind is a whole number; True and False are none."""
    return isinstance(thing, int) and not isinstance(thing, bool)


def is_whole_within(thing, least, most):
    return is_whole(thing) and least <= thing <= most


def common_divisor(one, other):
    """The greatest whole number that divides both, of two from 0 on."""
    while other:
        one, other = other, one % other
    return one


def lowest(top, bottom):
    """The number top parted by bottom, a whole number from 1 on."""
    divisor = common_divisor(abs(top), bottom)
    return (top // divisor, bottom // divisor)


def is_number(thing):
    """Whether a thing of any kind is a number."""
    if not isinstance(thing, tuple) or len(thing) != 2:
        return False
    top, bottom = thing
    if not is_whole(top) or not is_whole(bottom) or bottom < 1:
        return False
    return common_divisor(abs(top), bottom) == 1


def is_amount(thing):
    """Whether a thing of any kind is a number from 0 on."""
    return is_number(thing) and thing[0] >= 0


def is_above_nothing(thing):
    """Whether a thing of any kind is a number above 0."""
    return is_amount(thing) and thing[0] > 0


def is_less(one, other):
    return one[0] * other[1] < other[0] * one[1]


def total(amounts):
    """All of these numbers together."""
    top, bottom = 0, 1
    for one in amounts:
        # Lowest terms at each step keep the tops and bottoms from growing with how many there are.
        top, bottom = lowest(top * one[1] + one[0] * bottom, bottom * one[1])
    return (top, bottom)


def parted(one, divisor):
    """A number parted by a whole number from 1 on."""
    return lowest(one[0], one[1] * divisor)


def difference(one, other):
    """What the first number is above the second one, below 0 where it is less."""
    return lowest(one[0] * other[1] - other[0] * one[1], one[1] * other[1])


def product(one, other):
    return lowest(one[0] * other[0], one[1] * other[1])


def common_bottom(amounts):
    """The least whole number that all bottoms of these numbers divide."""
    common = 1
    for one in amounts:
        common *= one[1] // common_divisor(common, one[1])
    return common


def in_units(one, bottom):
    """How many times 1 parted by this bottom, which its own one divides, a number is."""
    return one[0] * (bottom // one[1])
