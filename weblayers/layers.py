"""The layers of a web, and a laying that is level."""

from weblayers.levelling import even_blocks, laid_level
from weblayers.webs import need_web


def layers(web):
    """All layers as (part, height), from the densest part on down."""
    need_web(web)
    return tuple((tuple(block.places), block.height()) for block in even_blocks(web))


def level_heights(web):
    """The height of each place in every level laying."""
    high = {}
    for part, height in layers(web):
        for place in part:
            high[place] = height
    return tuple(high[place] for place in range(len(web[0])))


def level_laying(web):
    need_web(web)
    return laid_level(web)
