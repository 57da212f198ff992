"""Parting a web into blocks whose places can all be laid to the same height.

A block is tried at its own share. What is too heavy for it are the places that come to lie higher,
the rest come to lie no higher; both are tried by themselves. So places of one height stay together,
and the blocks that come out are the layers.
"""

from weblayers.filling import Filling
from weblayers.numbers import lowest


class Block:
    """Some places of a web, rising, and the ties that are to be laid on them.

    Ties are (number, places, weight), the places only those that are in the block.
    """

    def __init__(self, costs, places, ties):
        self.costs = costs
        self.places = places
        self.ties = ties
        self.cost = sum(costs[place] for place in places)
        self.weight = sum(heavy for number, tied, heavy in ties)
        # All is taken as many times as the block costs, so that no room is a broken number.
        heavies = [(tied, heavy * self.cost) for number, tied, heavy in ties]
        self.filling = Filling(heavies, {place: costs[place] * self.weight for place in places})

    def inner(self, chosen):
        """The block of some of the places, with the ties that have no others."""
        ties = [tie for tie in self.ties if all(place in chosen for place in tie[1])]
        return Block(self.costs, chosen, ties)

    def outer(self, chosen):
        """The block of the other places, with what the inner one's ties leave over."""
        ties = []
        for number, tied, heavy in self.ties:
            left = [place for place in tied if place not in chosen]
            if left:
                ties.append((number, left, heavy))
        return Block(self.costs, [place for place in self.places if place not in chosen], ties)

    def height(self):
        return lowest(self.weight, self.cost)

    def amounts(self):
        """What lies where, of an even block: triples (tie, place, amount)."""
        return [
            (number, place, lowest(laid[place], self.cost))
            for (number, tied, heavy), laid in zip(self.ties, self.filling.laid)
            for place in tied
        ]


def whole_block(web):
    costs, ties = web
    numbered = [(number, places, heavy) for number, (places, heavy) in enumerate(ties)]
    return Block(costs, list(range(len(costs))), numbered)


def densest_block(web):
    """The block of the first layer."""
    block = whole_block(web)
    dense = block.filling.overfull()
    while dense:
        block = block.inner(dense)
        dense = block.filling.overfull()
    return block


def even_blocks(web):
    """The blocks of all layers, from the highest on down."""
    even = []
    pending = [whole_block(web)]
    while pending:
        block = pending.pop()
        dense = block.filling.overfull()
        if dense:
            # The higher part is pushed last, to be parted first.
            pending.append(block.outer(dense))
            pending.append(block.inner(dense))
        else:
            even.append(block)
    return even


def laid_level(web):
    """A level laying of the web: each tie lies on its lowest places alone."""
    lying = {}
    for block in even_blocks(web):
        for number, place, amount in block.amounts():
            lying[(number, place)] = amount
    return tuple(
        tuple(lying.get((number, place), (0, 1)) for place in places)
        for number, (places, heavy) in enumerate(web[1])
    )
