"""What shows that a loom is level, or that it isn't."""

from weblayers.checked_roads import is_in_a_row
from weblayers.numbers import is_whole, is_whole_within
from weblayers.webs import MOST_PLACES, are_tied_places

MOST_LYING = 30


def shows_loom(many, threads, places, paper):
    if paper is not None or not are_laid_threads(many, threads, places):
        return False
    lying = counted(many, places)
    least = list(lying)
    # So many rounds follow every chain to its end, as no place comes twice on it.
    for turn in range(many):
        for thread, place in zip(threads, places):
            least[place] = min([least[other] for other in thread])
    return all(load - low < 2 for load, low in zip(lying, least))


def shows_loose(many, threads, places, chain):
    if not are_laid_threads(many, threads, places) or not isinstance(chain, tuple) or not chain:
        return False
    if not all(is_swap(threads, places, one) for one in chain) or not is_in_a_row(chain):
        return False
    # As no place comes twice, no thread does: each lies on one place alone.
    lying = counted(many, places)
    return lying[chain[0][1]] - lying[chain[-1][2]] >= 2


def are_laid_threads(many, threads, places):
    """Whether these, of any kind, are a number of places, threads on them, and where each thread lies."""
    if not is_whole_within(many, 1, MOST_PLACES) or not isinstance(threads, tuple) or not isinstance(places, tuple):
        return False
    if len(threads) > MOST_LYING or len(places) != len(threads):
        return False
    return all(
        are_tied_places(thread, many) and is_whole(place) and place in thread
        for thread, place in zip(threads, places)
    )


def counted(many, places):
    """How many threads lie on each place."""
    return [places.count(place) for place in range(many)]


def is_swap(threads, places, thing):
    if not isinstance(thing, tuple) or len(thing) != 3 or not all(is_whole(one) for one in thing):
        return False
    number, start, goal = thing
    return 0 <= number < len(threads) and places[number] == start and goal in threads[number]
