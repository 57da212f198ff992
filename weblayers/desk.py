"""The desk: webs kept by names, and asked by rows of words."""

from weblayers.checker import holds
from weblayers.densest import densest, least_densest
from weblayers.errors import NoCall, NoKept
from weblayers.layers import level_heights
from weblayers.papers import paper_core, paper_densest, paper_layers, paper_with
from weblayers.sizes import heaviest
from weblayers.strips import stripped
from weblayers.webs import need_place, share
from weblayers.webtexts import read_places, read_web, read_whole, show_number, show_places, show_web, show_wholes

LETTERS = "abcdefghijklmnopqrstuvwxyz"
MOST_LETTERS = 8


def is_name(word):
    return 1 <= len(word) <= MOST_LETTERS and all(sign in LETTERS for sign in word)


# Each row is answered with a text and, where it has one, its claim with the paper, else None. What isn't written as
# a part, a place or a size is read as none, and refused by who is asked of it.


def tell_show(web):
    return (show_web(web), None)


def tell_densest(web):
    part = densest(web)
    return (show_places(part), paper_densest(web, part))


def tell_least(web):
    return (" | ".join([show_places(part) for part in least_densest(web)]), None)


def tell_layers(web):
    claim, paper = paper_layers(web)
    shown = [f"{show_places(part)}={show_number(height)}" for part, height in claim[2]]
    return (" ".join(shown), (claim, paper))


def tell_strip(web):
    order, part = stripped(web)
    return (show_wholes([place for place, number in order], " "), None)


def tell_share(web, word):
    return (show_number(share(web, read_places(word))), None)


def tell_height(web, word):
    place = read_whole(word)
    need_place(web, place)
    return (show_number(level_heights(web)[place]), None)


def tell_core(web, word):
    claim, paper = paper_core(web, read_whole(word))
    return (show_number(claim[3]), (claim, paper))


def tell_with(web, word):
    claim, paper = paper_with(web, read_places(word))
    return (show_places(claim[3]), (claim, paper))


def tell_size(web, word):
    heavy, parts = heaviest(web, read_whole(word))
    return (str(heavy), None)


# Rows of a name alone, and rows of a name and one word more.
NAME_ROWS = {
    "show": tell_show, "densest": tell_densest, "least": tell_least, "layers": tell_layers, "strip": tell_strip,
}
WORD_ROWS = {
    "share": tell_share, "height": tell_height, "core": tell_core, "with": tell_with, "size": tell_size,
}


def words_of(row):
    """The words of a row; the text of a web is one, whatever blanks it has."""
    return row.split(" ", 2) if row.startswith("web ") else row.split(" ")


def is_row(words):
    """Whether these are the words of a row with a name."""
    if len(words) == 2:
        return words[0] in NAME_ROWS and is_name(words[1])
    return len(words) == 3 and (words[0] in WORD_ROWS or words[0] == "web") and is_name(words[1])


def answer(web, words):
    if len(words) == 2:
        tell = NAME_ROWS[words[0]]
        return tell(web)
    tell_of = WORD_ROWS[words[0]]
    return tell_of(web, words[2])


class Desk:
    """Webs by their names, and the last claim that an answer made, with its paper."""

    def __init__(self):
        self.kept = {}
        self.last = None

    def say(self, row):
        """The answer to a row, a text."""
        if not isinstance(row, str):
            raise NoCall(row)
        if row == "paper":
            return self.judged()
        words = words_of(row)
        if not is_row(words):
            raise NoCall(row)
        name = words[1]
        if words[0] == "web":
            self.kept[name] = read_web(words[2])
            return "ok"
        if name not in self.kept:
            raise NoKept(name)
        text, shown = answer(self.kept[name], words)
        if shown is not None:
            self.last = shown
        return text

    def judged(self):
        if self.last is None:
            return "none"
        claim, paper = self.last
        return "holds" if holds(claim, paper) else "no"
