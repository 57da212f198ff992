"""Laying ties on places that have room for so much each.

Weight goes to where room is over shortest chains of ties, each time as much as the chain takes, so
the work hangs on how many places and ties there are, not on how great the weights are.
"""

from weblayers.chains import steps_to, trace


class Filling:
    """As much weight of ties, pairs (places, weight), as their places have room for."""

    def __init__(self, ties, rooms):
        self.tied = [places for places, heavy in ties]
        self.waiting = [heavy for places, heavy in ties]
        self.rooms = dict(rooms)
        self.laid = [{place: 0 for place in places} for places in self.tied]
        self.touching = {place: [] for place in rooms}
        for tie, places in enumerate(self.tied):
            for place in places:
                self.touching[place].append(tie)
        for tie in range(len(ties)):
            self.lay(tie)

    def lay(self, tie):
        while self.waiting[tie]:
            came, end = self.search(self.tied[tie])
            if end is None:
                return
            self.push(tie, steps_to(came, end), end)

    def search(self, starts):
        """Where weight may go on to from these places, up to the nearest place that has room."""
        return trace(
            starts,
            lambda place: self.onward(place),
            lambda place: self.rooms[place] > 0,
        )

    def onward(self, place):
        """The pairs (tie, place) by which weight that lies on this place may leave it."""
        return [(tie, other) for tie in self.touching[place] if self.laid[tie][place] for other in self.tied[tie]]

    def push(self, tie, steps, end):
        """Lay as much of a waiting tie as the steps take, which end at a place with room."""
        amount = min(self.waiting[tie], self.rooms[end])
        # A shortest chain goes over no tie twice, so no step takes from what another one needs.
        for over, start, goal in steps:
            amount = min(amount, self.laid[over][start])
        for over, start, goal in steps:
            self.laid[over][start] -= amount
            self.laid[over][goal] += amount
        first = steps[0][1] if steps else end
        self.laid[tie][first] += amount
        self.waiting[tie] -= amount
        self.rooms[end] -= amount

    def reached(self, starts):
        """These places and all to which weight on them may go on, where none of them has room."""
        came, end = self.search(starts)
        return sorted(came)

    def has_way(self, place):
        """Whether weight on this place, were it there, could go on to where room is."""
        came, end = self.search([place])
        return end is not None

    def overfull(self):
        """The places to which weight still waiting may go: for them there are too many ties."""
        starts = {}
        for tie, places in enumerate(self.tied):
            if self.waiting[tie]:
                for place in places:
                    starts[place] = True
        return self.reached(list(starts))
