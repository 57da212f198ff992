"""Looms: threads are put and taken off, and one chain of swaps a deed at most keeps their loads level.

A thread that is put goes, over a chain, to the least load that it can come to. Where one is taken off, the
greatest load from which a chain leads there gives one away. So one place's load alone changes, by one.
"""

from weblayers.chains import steps_to, trace_all
from weblayers.errors import NoNumber, NoSize, NoThread
from weblayers.numbers import is_whole, is_whole_within
from weblayers.webs import MOST_PLACES, are_tied_places

MOST_THREADS = 30


class Loom:
    """So many places, and threads by their numbers, each on one of its places."""

    def __init__(self, many):
        if not is_whole_within(many, 1, MOST_PLACES):
            raise NoSize("no number of places that a loom can have")
        self.many = many
        self.next_number = 0
        self.tied = {}
        self.spots = {}

    def put(self, thread):
        """Put a thread on; told are its number, the place on which it is laid, and a chain from there."""
        if not are_tied_places(thread, self.many) or len(self.tied) >= MOST_THREADS:
            raise NoThread("no thread, or one too many")
        came = self.led_from(thread)
        lying = self.loads()
        end = min(list(came), key=lambda place: lying[place])
        chain = tuple(steps_to(came, end))
        first = chain[0][1] if chain else end
        number = self.next_number
        self.next_number += 1
        self.tied[number] = thread
        self.spots[number] = first
        self.swap(chain)
        return (number, first, chain)

    def take(self, number):
        """Take a thread off; told is a chain that ends where it lay."""
        if not is_whole(number) or number not in self.tied:
            raise NoNumber("no number of a thread that lies there")
        spot = self.spots[number]
        del self.tied[number], self.spots[number]
        came = self.led_to(spot)
        lying = self.loads()
        start = max(list(came), key=lambda place: lying[place])
        if lying[start] - lying[spot] < 2:
            return ()
        # The trace went backwards, so its steps are turned round.
        chain = tuple((swapped, goal, here) for swapped, here, goal in reversed(steps_to(came, start)))
        self.swap(chain)
        return chain

    def threads(self):
        return tuple((number, self.tied[number], self.spots[number]) for number in sorted(self.tied))

    def loads(self):
        lying = [0] * self.many
        for place in self.spots.values():
            lying[place] += 1
        return tuple(lying)

    def web(self):
        """The web of the threads, alike ones together one tie."""
        alike = {}
        for thread in self.tied.values():
            alike[thread] = alike.get(thread, 0) + 1
        return ((1,) * self.many, tuple(sorted(alike.items())))

    def thick(self):
        """The places to which chains lead from the first one with the greatest load."""
        lying = self.loads()
        return tuple(sorted(self.led_from((lying.index(max(lying)),))))

    def swap(self, chain):
        for number, start, goal in chain:
            self.spots[number] = goal

    def led_from(self, places):
        """A trace of all places to which chains lead from these."""
        return trace_all(places, lambda place: self.swaps_from(place))

    def led_to(self, place):
        """A trace, backwards, of all places from which chains lead to this one."""
        return trace_all((place,), lambda here: self.swaps_to(here))

    def swaps_from(self, place):
        """The pairs (number, place) by which a thread that lies on this place may leave it."""
        return [
            (number, other) for number, spot in self.spots.items() if spot == place for other in self.tied[number]
        ]

    def swaps_to(self, place):
        """The pairs (number, place) of the threads that may come to this place, and where they lie."""
        return [(number, spot) for number, spot in self.spots.items() if place in self.tied[number]]
