"""Webs, arrows and numbers written as texts, and read again.

What isn't written as it must be is read as None, which is a piece of no web and of no arrows: so it is refused
where it stands, like what is written well and can't be there.
"""

from weblayers.arrows import is_arrows, need_arrows
from weblayers.errors import NoText
from weblayers.webs import is_web, need_web

FIGURES = "0123456789"
# The greatest weight has so many; Python itself reads no number of very many figures.
MOST_FIGURES = 7


def show_number(one):
    top, bottom = one
    return str(top) if bottom == 1 else f"{top}/{bottom}"


def show_wholes(wholes, between):
    return between.join([str(one) for one in wholes])


def show_places(places):
    return show_wholes(places, "+")


def show_web(web):
    need_web(web)
    costs, ties = web
    return "; ".join([show_wholes(costs, " ")] + [f"{show_places(places)}:{heavy}" for places, heavy in ties])


def show_arrows(arrows):
    need_arrows(arrows)
    many, ways = arrows
    return "; ".join([str(many)] + [f"{start}>{goal}:{heavy}" for start, goal, heavy in ways])


def read_whole(word):
    """The whole number that a word is, None where it isn't written as usual or is beyond all that is told."""
    if not word or len(word) > MOST_FIGURES or any(sign not in FIGURES for sign in word):
        return None
    if word.startswith("0") and word != "0":
        return None
    return int(word)


def read_wholes(text, between):
    return tuple(read_whole(word) for word in text.split(between))


def read_places(text):
    return read_wholes(text, "+")


def read_costs(piece):
    return read_wholes(piece, " ")


def read_tie(piece):
    places, colon, heavy = piece.partition(":")
    return (read_places(places), read_whole(heavy))


def read_way(piece):
    start, arrow, rest = piece.partition(">")
    goal, colon, heavy = rest.partition(":")
    return (read_whole(start), read_whole(goal), read_whole(heavy))


def read_web(text):
    """The web that is written so."""
    return read_pieces(text, read_costs, read_tie, is_web)


def read_arrows(text):
    """The arrows that are written so."""
    return read_pieces(text, read_whole, read_way, is_arrows)


def read_pieces(text, read_first, read_next, is_one):
    """What a text comes to: its first piece, and a tuple of all others."""
    if not isinstance(text, str):
        raise NoText(None)
    first, *rest = text.split("; ")
    told = (read_first(first), ())
    if not is_one(told):
        raise NoText(0)
    for number, piece in enumerate(rest, start=1):
        # Tried with each piece, so that the first one by which it is none is told.
        told = (told[0], told[1] + (read_next(piece),))
        if not is_one(told):
            raise NoText(number)
    return told
