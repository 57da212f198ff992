"""What shows that roads lead somewhere: each of them gone, step by step."""

from weblayers.checked_webs import is_laid, is_same
from weblayers.layings import loads
from weblayers.numbers import difference, is_above_nothing, is_less, is_whole, is_whole_within, parted, total


def shows_leads(web, laying, goal, roads):
    if not is_laid(web, laying) or not isinstance(roads, tuple):
        return False
    walk = Walk(web, laying)
    for road in roads:
        if not walk.takes(road):
            return False
    return is_same(goal, tuple(walk.carried))


def is_in_a_row(moves):
    """Whether each of these moves (what, from, to) begins where the one ahead ends, and no place comes twice."""
    met = [moves[0][1]]
    for what, start, goal in moves:
        if start != met[-1] or goal in met:
            return False
        met.append(goal)
    return True


class Walk:
    """What lies where, and on each place in all, behind the roads gone so far."""

    def __init__(self, web, laying):
        self.prices = web[0]
        self.lots = [dict(zip(places, amounts)) for (places, heavy), amounts in zip(web[1], laying)]
        self.carried = list(loads(web, laying))

    def takes(self, thing):
        """Whether a thing of any kind is a road that can be gone; it is then."""
        if not isinstance(thing, tuple) or len(thing) != 2:
            return False
        steps, amount = thing
        if not isinstance(steps, tuple) or not steps or not all(self.is_step(one) for one in steps):
            return False
        return is_above_nothing(amount) and is_in_a_row(steps) and self.moves(steps, amount)

    def is_step(self, thing):
        if not isinstance(thing, tuple) or len(thing) != 3 or not all(is_whole(one) for one in thing):
            return False
        tie, start, goal = thing
        return is_whole_within(tie, 0, len(self.lots) - 1) and start in self.lots[tie] and goal in self.lots[tie]

    def moves(self, steps, amount):
        for tie, start, goal in steps:
            lot = self.lots[tie]
            if is_less(lot[start], amount):
                return False
            lot[start] = difference(lot[start], amount)
            lot[goal] = total((lot[goal], amount))
        first, last = steps[0][1], steps[-1][2]
        self.carried[first] = difference(self.carried[first], amount)
        self.carried[last] = total((self.carried[last], amount))
        return not is_less(self.height_of(first), self.height_of(last))

    def height_of(self, place):
        return parted(self.carried[place], self.prices[place])
