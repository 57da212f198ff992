"""Shortest chains of steps (tie, from, to) from place to place."""


def trace(starts, onward, is_end):
    """Where chains lead from these places, up to the nearest place that is an end.

    onward tells of a place the pairs (tie, place) by which a chain may go on. Told are a dict that
    says for each place met by which tie and from where, None of the starts, and the end, None where
    there is none.
    """
    came = {place: None for place in starts}
    queue = list(starts)
    at = 0
    while at < len(queue):
        place = queue[at]
        at += 1
        if is_end(place):
            return came, place
        for tie, other in onward(place):
            if other not in came:
                came[other] = (tie, place)
                queue.append(other)
    return came, None


def trace_all(starts, onward):
    """Where chains lead from these places, as trace tells it, without an end."""
    came, end = trace(starts, onward, lambda place: False)
    return came


def steps_to(came, end):
    """The steps (tie, from, to) by which a trace came to this place."""
    steps = []
    place = end
    while came[place] is not None:
        tie, start = came[place]
        steps.append((tie, start, place))
        place = start
    return steps[::-1]
