"""Roads: weight that goes from place to place over ties, and roads by which a laying comes to be level."""

from weblayers.chains import steps_to, trace
from weblayers.errors import NoRoad
from weblayers.layings import need_laying
from weblayers.levelling import laid_level
from weblayers.numbers import (
    common_bottom, difference, in_units, is_above_nothing, is_less, is_whole, is_whole_within, lowest, parted, total,
)


def is_road(web, thing):
    """Whether a thing of any kind is a road of the web, wherever its weight lies."""
    if not isinstance(thing, tuple) or len(thing) != 2:
        return False
    steps, amount = thing
    return are_steps(web, steps) and is_above_nothing(amount)


def are_steps(web, thing):
    if not isinstance(thing, tuple) or not thing:
        return False
    if not all(is_step(web, one) for one in thing):
        return False
    starts = [start for tie, start, goal in thing]
    goals = [goal for tie, start, goal in thing]
    met = [starts[0], *goals]
    # No place twice: so the two of each step are unlike, too.
    return starts[1:] == goals[:-1] and len(set(met)) == len(met)


def is_step(web, thing):
    if not isinstance(thing, tuple) or len(thing) != 3:
        return False
    tie, start, goal = thing
    if not is_whole_within(tie, 0, len(web[1]) - 1) or not is_whole(start) or not is_whole(goal):
        return False
    places, heavy = web[1][tie]
    return start in places and goal in places


def gone(web, laying, roads):
    """The laying that comes of going these roads, one behind the other."""
    need_laying(web, laying)
    if not isinstance(roads, tuple):
        raise NoRoad(None)
    lying = [dict(zip(tie[0], amounts)) for tie, amounts in zip(web[1], laying)]
    for number, road in enumerate(roads):
        if not is_road(web, road) or not go(web[0], lying, road):
            raise NoRoad(number)
    return tuple(tuple(by_place.values()) for by_place in lying)


def go(costs, lying, road):
    """Go a road over what lies on which place of each tie; told is whether it can be gone."""
    steps, amount = road
    for tie, start, goal in steps:
        by_place = lying[tie]
        if is_less(by_place[start], amount):
            return False
        by_place[start] = difference(by_place[start], amount)
        by_place[goal] = total((by_place[goal], amount))
    first, last = steps[0][1], steps[-1][2]
    return not is_less(height_now(costs, lying, first), height_now(costs, lying, last))


def height_now(costs, lying, place):
    return parted(total([by_place[place] for by_place in lying if place in by_place]), costs[place])


def to_level(web, laying):
    """Roads from a laying to a level one."""
    need_laying(web, laying)
    surplus = Surplus(web, laying, laid_level(web))
    roads = []
    for place in range(len(web[0])):
        while surplus.above[place] > 0:
            roads.append(surplus.road_from(place))
    return tuple(roads)


class Surplus:
    """What lies where above what lies there in a level laying, below 0 where it is less.

    Each road goes over places and ties where there is too much to such where there is too little, so
    it never leads from a place to one that has to come higher. It leaves one surplus of a place, or of
    a tie on a place, at 0 for good, and the last two of a tie come to 0 at once: so roads are few.
    """

    def __init__(self, web, laying, level):
        self.unit = common_bottom([one for amounts in (*laying, *level) for one in amounts])
        self.over = [
            {
                place: in_units(one, self.unit) - in_units(other, self.unit)
                for place, one, other in zip(tie[0], amounts, goals)
            }
            for tie, amounts, goals in zip(web[1], laying, level)
        ]
        self.above = [sum(by_place.get(place, 0) for by_place in self.over) for place in range(len(web[0]))]

    def onward(self, place):
        """The pairs (tie, place) by which weight may go on from this place."""
        return [
            (tie, other)
            for tie, by_place in enumerate(self.over) if by_place.get(place, 0) > 0
            for other in by_place if by_place[other] < 0
        ]

    def road_from(self, place):
        """The next road from a place that has too much, gone here too."""
        came, end = trace(
            [place],
            lambda here: self.onward(here),
            lambda here: self.above[here] < 0,
        )
        steps = steps_to(came, end)
        amount = min(self.above[place], -self.above[end])
        for tie, start, goal in steps:
            amount = min(amount, self.over[tie][start], -self.over[tie][goal])
        for tie, start, goal in steps:
            self.over[tie][start] -= amount
            self.over[tie][goal] += amount
        self.above[place] -= amount
        self.above[end] += amount
        return (tuple(steps), lowest(amount, self.unit))
