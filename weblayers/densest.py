"""The densest parts of a web."""

from weblayers.levelling import densest_block, laid_level
from weblayers.webs import need_web


def densest(web):
    """The greatest densest part."""
    need_web(web)
    return tuple(densest_block(web).places)


def least_densest(web):
    """All densest parts that have no other one within, rising."""
    need_web(web)
    block = densest_block(web)
    # No tie that lies on a densest part has a place outside: such parts are those that weight,
    # moved along ties, can't leave.
    closed = {place: tuple(block.filling.reached([place])) for place in block.places}
    least = {part for part in closed.values() if all(closed[place] == part for place in part)}
    return tuple(sorted(least))


def bearing(web):
    """A laying no height of which is above the greatest share."""
    need_web(web)
    return laid_level(web)
