import random
import unittest
from unittest import mock

from tests.helper import (
    AllParts, check_refused, great_web, great_webs, odd_things, plain_cores, plain_heaviest, plain_with, refusal_of,
    several_webs,
)
from weblayers.checker import holds
from weblayers.cores import cores
from weblayers.densest import densest, least_densest
from weblayers.desk import Desk
from weblayers.errors import NoCall, NoKept, NoPart, NoSize, NoText
from weblayers.layers import layers, level_heights
from weblayers.musts import densest_with
from weblayers.papers import paper_core, paper_densest, paper_layers, paper_with
from weblayers.sizes import heaviest
from weblayers.strips import stripped
from weblayers.webs import share
from weblayers.webtexts import read_web, show_number, show_web

TEXT = "1 1 2; 0:2; 0+1:3; 0+1+2:1"
WEB = ((1, 1, 2), (((0,), 2), ((0, 1), 3), ((0, 1, 2), 1)))
OTHER_TEXT = "1 1 1; 0:1; 1:1; 2:1"
OTHER = ((1, 1, 1), (((0,), 1), ((1,), 1), ((2,), 1)))
# Rows about a web named a with their answers, and whether they have a paper.
ROWS = (
    ("show a", TEXT, False),
    ("share a 0", "2", False),
    ("share a 0+1", "5/2", False),
    ("share a 0+1+2", "3/2", False),
    ("share a 1+2", "0", False),
    ("densest a", "0+1", True),
    ("least a", "0+1", False),
    ("layers a", "0+1=5/2 2=1/2", True),
    ("height a 0", "5/2", False),
    ("height a 1", "5/2", False),
    ("height a 2", "1/2", False),
    ("core a 0", "3", True),
    ("core a 1", "3", True),
    ("core a 2", "1/2", True),
    ("strip a", "2 1 0", False),
    ("with a 2", "0+1+2", True),
    ("with a 1", "0+1", True),
    ("with a 0+1", "0+1", True),
    ("size a 1", "2", False),
    ("size a 2", "5", False),
    ("size a 3", "6", False),
)
NAME_WORDS = ("show", "densest", "least", "layers", "strip")
MORE_WORDS = ("share", "height", "core", "with", "size")


def desk_with(text=TEXT, name="a"):
    desk = Desk()
    desk.say(f"web {name} {text}")
    return desk


def plus(part):
    return "+".join(map(str, part))


def everything(desk, names=("a",)):
    """The answers to all rows about webs of these names, but those that have a paper."""
    rows = [row.replace(" a", " " + name, 1) for name in names for row, told, papered in ROWS if not papered]
    return [answer_of(desk, row) for row in rows]


def answer_of(desk, row):
    """The answer, or the refusal's kind and fields."""
    try:
        return desk.say(row)
    except ValueError as refusal:
        return type(refusal), vars(refusal)


class Looking:
    """In the place of the checker, keeping what it is asked."""

    def __init__(self, told=True):
        self.told = told
        self.asked = []

    def __call__(self, claim, paper):
        self.asked.append((claim, paper))
        return self.told


def last_asked(desk):
    """The claim and paper of the last answer that has one, as the checker is asked of them."""
    looking = Looking()
    with mock.patch("weblayers.desk.holds", looking):
        desk.say("paper")
    return looking.asked[0]


class Answers(unittest.TestCase):
    def say(self, desk, row, told):
        answer = desk.say(row)
        self.assertIs(type(answer), str)
        self.assertEqual(answer, told, row)

    def test_by_hand(self):
        desk = Desk()
        self.say(desk, "web a " + TEXT, "ok")
        for turn in range(2):
            for row, told, papered in ROWS:
                self.say(desk, row, told)

    def test_more_by_hand(self):
        desk = desk_with(OTHER_TEXT, "b")
        for row, told in (
            ("show b", OTHER_TEXT), ("densest b", "0+1+2"), ("least b", "0 | 1 | 2"), ("layers b", "0+1+2=1"),
            ("strip b", "0 1 2"), ("with b 1", "0+1+2"), ("size b 2", "2"), ("core b 2", "1"), ("height b 0", "1"),
        ):
            self.say(desk, row, told)
        self.say(desk, "web twelvexx 1 1 1 1 1 1 1 1 1 1 1 1; 0+10:5; 10+11:6", "ok")
        for row, told in (
            ("densest twelvexx", "0+10+11"), ("least twelvexx", "0+10+11"), ("share twelvexx 0+10+11", "11/3"),
            ("layers twelvexx", "0+10+11=11/3 1+2+3+4+5+6+7+8+9=0"), ("with twelvexx 10", "0+10+11"),
            ("strip twelvexx", "1 2 3 4 5 6 7 8 9 0 10 11"), ("height twelvexx 11", "11/3"), ("core twelvexx 10", "6"),
            ("size twelvexx 12", "11"),
        ):
            self.say(desk, row, told)
        self.say(desk, "web x 5", "ok")
        for row, told in (
            ("show x", "5"), ("densest x", "0"), ("least x", "0"), ("layers x", "0=0"), ("strip x", "0"), ("with x 0", "0"),
            ("share x 0", "0"), ("height x 0", "0"), ("core x 0", "0"), ("size x 1", "0"),
        ):
            self.say(desk, row, told)

    def check_web(self, desk, name, web, chance):
        self.say(desk, f"web {name} {show_web(web)}", "ok")
        many = len(web[0])
        self.say(desk, f"show {name}", show_web(web))
        self.say(desk, f"densest {name}", plus(densest(web)))
        self.say(desk, f"least {name}", " | ".join(map(plus, least_densest(web))))
        self.say(desk, f"layers {name}", " ".join(f"{plus(part)}={show_number(high)}" for part, high in layers(web)))
        self.say(desk, f"strip {name}", " ".join(str(place) for place, number in stripped(web)[0]))
        for place in range(many):
            self.say(desk, f"height {name} {place}", show_number(level_heights(web)[place]))
            self.say(desk, f"core {name} {place}", show_number(cores(web)[place]))
            self.say(desk, f"size {name} {place + 1}", str(heaviest(web, place + 1)[0]))
            part = tuple(sorted(chance.sample(range(many), place + 1)))
            self.say(desk, f"share {name} {plus(part)}", show_number(share(web, part)))
            self.say(desk, f"with {name} {plus(part)}", plus(densest_with(web, part)))
            self.say(desk, "paper", "holds")

    def test_as_the_functions_tell(self):
        chance = random.Random(260)
        desk = Desk()
        for at, web in enumerate(list(several_webs())[::5]):
            self.check_web(desk, "abcdefgh"[at % 8:], web, chance)

    def test_great_webs(self):
        chance = random.Random(261)
        desk = Desk()
        for web in list(great_webs())[::6]:
            self.assertLessEqual(len(f"web great {show_web(web)}"), 1000)
            self.check_web(desk, "great", web, chance)

    def test_against_all_parts(self):
        for web in list(several_webs())[::25]:
            desk = desk_with(show_web(web))
            parts = AllParts(web)
            self.say(desk, "densest a", plus(parts.densest()))
            self.say(desk, "with a 0", plus(plain_with(parts, (0,))[1]))
            self.say(desk, "core a 0", show_number(plain_cores(web)[0][0]))
            self.say(desk, "size a 1", str(plain_heaviest(parts, 1)[0]))

    def test_names(self):
        desk = Desk()
        for name in ("a", "z", "ab", "web", "show", "paper", "abcdefgh", "zzzzzzzz", "with"):
            self.say(desk, f"web {name} {TEXT}", "ok")
            self.say(desk, f"show {name}", TEXT)
            self.say(desk, f"share {name} 0+1", "5/2")

    def test_kept_in_the_place_of_what_was(self):
        desk = desk_with()
        self.say(desk, "web b 7", "ok")
        self.say(desk, "web a " + OTHER_TEXT, "ok")
        self.say(desk, "show a", OTHER_TEXT)
        self.say(desk, "densest a", "0+1+2")
        self.say(desk, "show b", "7")
        self.say(desk, "web a " + TEXT, "ok")
        self.say(desk, "densest a", "0+1")
        # What is refused keeps what was.
        for text in ("", "x", TEXT + ";", OTHER_TEXT + "; 9:1", " " + TEXT):
            check_refused(self, NoText, desk.say, "web a " + text)
            self.say(desk, "show a", TEXT)

    def test_two_side_by_side(self):
        one, other = Desk(), Desk()
        self.say(one, "web a " + TEXT, "ok")
        check_refused(self, NoKept, other.say, "show a")
        self.say(other, "web a " + OTHER_TEXT, "ok")
        self.say(other, "web b 1", "ok")
        check_refused(self, NoKept, one.say, "show b")
        for turn in range(2):
            self.say(one, "show a", TEXT)
            self.say(other, "show a", OTHER_TEXT)
        self.say(one, "densest a", "0+1")
        self.say(other, "paper", "none")
        self.say(one, "paper", "holds")
        self.say(other, "core a 1", "1")
        self.assertEqual(last_asked(one), paper_densest(WEB, (0, 1)))
        self.assertEqual(last_asked(other), paper_core(OTHER, 1))


class Papers(unittest.TestCase):
    def test_none_ahead_of_all(self):
        desk = Desk()
        self.assertEqual(desk.say("paper"), "none")
        desk.say("web a " + TEXT)
        self.assertEqual(desk.say("paper"), "none")
        for row, told, papered in ROWS:
            if not papered:
                desk.say(row)
                self.assertEqual(desk.say("paper"), "none")

    def test_behind_each_row(self):
        papers = {
            "densest a": paper_densest(WEB, (0, 1)), "layers a": paper_layers(WEB), "core a 0": paper_core(WEB, 0),
            "core a 1": paper_core(WEB, 1), "core a 2": paper_core(WEB, 2), "with a 2": paper_with(WEB, (2,)),
            "with a 1": paper_with(WEB, (1,)), "with a 0+1": paper_with(WEB, (0, 1)),
        }
        self.assertEqual(set(papers), {row for row, told, papered in ROWS if papered})
        desk = desk_with()
        for row, told in papers.items():
            for turn in range(2):
                desk.say(row)
                self.assertEqual(desk.say("paper"), "holds")
                self.assertEqual(desk.say("paper"), "holds")
                self.assertEqual(last_asked(desk), told)
                self.assertIs(holds(*told), True)

    def test_behind_others_and_behind_refusals_it_stays(self):
        refused = (
            "densest b", "layers b", "core b 0", "core a 3", "core a x", "core a ", "with a ", "with a 3", "with a 1+0",
            "densest", "layers a a", "core a", "with a", "densest A", "paper ", "paper a", "web a", "web a x", None, 0, "",
            "share a 9", "size a 9", "show b",
        )
        for first, claim in (("densest a", "densest"), ("layers a", "layers"), ("core a 1", "core"), ("with a 2", "with")):
            desk = desk_with()
            desk.say(first)
            kept = last_asked(desk)
            self.assertEqual(kept[0][0], claim)
            for row in [row for row, told, papered in ROWS if not papered] + ["web c 1", "web a " + OTHER_TEXT, "show c"]:
                desk.say(row)
                self.assertEqual(last_asked(desk), kept)
                self.assertEqual(desk.say("paper"), "holds")
            for row in refused:
                self.assertIsNotNone(refusal_of(desk.say, row), row)
                self.assertEqual(last_asked(desk), kept)
                self.assertEqual(desk.say("paper"), "holds")

    def test_refusals_ahead_of_all(self):
        desk = desk_with()
        for row in ("densest b", "core a 3", "with a ", "layers"):
            self.assertIsNotNone(refusal_of(desk.say, row))
            self.assertEqual(desk.say("paper"), "none")

    def test_the_last_of_several(self):
        desk = desk_with()
        chance = random.Random(262)
        rows = [row for row, told, papered in ROWS if papered]
        for turn in range(40):
            chosen = chance.choices(rows, k=3)
            for row in chosen:
                desk.say(row)
            alone = desk_with()
            alone.say(chosen[-1])
            self.assertEqual(last_asked(desk), last_asked(alone))

    def test_a_web_kept_by_the_same_name_again(self):
        desk = desk_with()
        desk.say("densest a")
        desk.say("web a " + OTHER_TEXT)
        # It was answered of the web that was kept then.
        self.assertEqual(last_asked(desk), paper_densest(WEB, (0, 1)))
        self.assertEqual(desk.say("paper"), "holds")
        desk.say("layers a")
        self.assertEqual(last_asked(desk), paper_layers(OTHER))

    def test_what_the_checker_says(self):
        desk = desk_with()
        for row in ("densest a", "layers a", "core a 0", "with a 2"):
            desk.say(row)
            for told, answer in ((True, "holds"), (False, "no")):
                with mock.patch("weblayers.desk.holds", Looking(told)):
                    self.assertEqual(desk.say("paper"), answer)
        with mock.patch("weblayers.desk.holds", Looking(False)):
            self.assertEqual(Desk().say("paper"), "none")


class Refusals(unittest.TestCase):
    def check_call(self, desk, row):
        ahead = everything(desk)
        refusal = refusal_of(desk.say, row)
        self.assertIs(type(refusal), NoCall, row)
        self.assertIs(refusal.row, row)
        self.assertEqual(everything(desk), ahead)

    def check_kept(self, desk, row, name):
        refusal = refusal_of(desk.say, row)
        self.assertIs(type(refusal), NoKept, row)
        self.assertEqual(refusal.name, name)

    def check_all(self, row):
        """With and without webs kept."""
        for desk in (Desk(), desk_with()):
            self.check_call(desk, row)

    def test_what_is_no_text(self):
        for thing in [one for one in odd_things() if not isinstance(one, str)] + [0, 1, ["paper"], ("show a",), b"paper"]:
            self.check_all(thing)

    def test_another_first_word(self):
        for row in (
            "", " ", "  ", "a", "web", "webs a 1", "shows a", "Show a", "SHOW a", "sho a", " show a", "show\ta", "show\na",
            "\nshow a", "papers", "Paper", " paper", "paper\n", "hold a", "height", "densest+ a", "not densest a", "a show",
            "heights a 0", "flow a", "roads a", "keep a 1", "web\na 1", "x a 0", "show,a", "=",
        ):
            self.check_all(row)

    def test_another_number_of_words(self):
        for word in NAME_WORDS:
            for row in (word, f"{word} a 0", f"{word} a ", f"{word} a  ", f"{word}  a", f"{word} a 0 1", f"{word} b 0"):
                self.check_all(row)
        for word in MORE_WORDS:
            for row in (
                word, f"{word} ", f"{word} a", f"{word} a 0 ", f"{word} a 0 1", f"{word} a  0", f"{word}  a 0", f"{word} b",
                f"{word} a 0  ", f"{word} a 0 + 1",
            ):
                self.check_all(row)
        for row in ("paper ", "paper a", "paper  ", "paper none", "web", "web ", "web a", "web b"):
            self.check_all(row)

    def test_a_name_that_is_none(self):
        for name in (
            "", "A", "aB", "abcdefghi", "abcdefghijkl", "1", "a1", "a_b", "a-b", "a+b", ".", "\u00e4", "a\n", "\n", "a\t",
            "\u0430", "\u00df", ";", "0",
        ):
            for word in NAME_WORDS:
                self.check_all(f"{word} {name}")
            for word in MORE_WORDS:
                self.check_all(f"{word} {name} 0")
                self.check_all(f"{word} {name} ")
                self.check_all(f"{word} {name} x")
            for text in (TEXT, "", "x"):
                self.check_all(f"web {name} {text}")

    def test_then_a_name_not_kept(self):
        for desk in (Desk(), desk_with()):
            for name in ("b", "aa", "abcdefgh", "paper", "web"):
                for word in NAME_WORDS:
                    self.check_kept(desk, f"{word} {name}", name)
                for word in MORE_WORDS:
                    # Ahead of what is no part, place or size.
                    for more in ("0", "", "x", "99", "1+0", "00"):
                        self.check_kept(desk, f"{word} {name} {more}", name)
        desk = Desk()
        check_refused(self, NoText, desk.say, "web a x")
        self.check_kept(desk, "show a", "a")

    def test_then_parts_places_and_sizes(self):
        desk = desk_with()
        ahead = everything(desk)
        parts = (
            "", "x", "00", "01", "+", "0+", "+0", "0++1", "1+0", "0+0", "3", "0+3", "-1", "0,1", "0+1+", "0+1+2+3", "0+01",
            "1.0", "0\n", "0+1\n", "()", "(0,)", "9999999", "9" * 50, "1" * 5000, "\u0661", "1_0", "a", "0>1", "0:1", "None",
        )
        for part in parts:
            for word in ("share", "with"):
                check_refused(self, NoPart, desk.say, f"{word} a {part}")
            for word in ("height", "core"):
                check_refused(self, NoPart, desk.say, f"{word} a {part}")
        for part in ("0+1", "0+1+2"):
            for word in ("height", "core"):
                check_refused(self, NoPart, desk.say, f"{word} a {part}")
        for size in parts + ("0", "4", "5", "13", "1+1", "+1", "1+2"):
            if size != "3":
                check_refused(self, NoSize, desk.say, f"size a {size}")
        self.assertEqual(desk.say("size a 3"), "6")
        self.assertEqual(everything(desk), ahead)

    def test_texts_that_are_none(self):
        desk = desk_with()
        for text, part in (
            ("", 0), (" ", 0), ("x", 0), (" 1", 0), ("1 ", 0), ("1; ", 1), ("1; 0:1; 0:1", 2), ("1;0:1", 0), ("1\n", 0),
            ("1 1; 0:1; x", 2), ("0", 0),
        ):
            for name in ("a", "b"):
                refusal = refusal_of(desk.say, f"web {name} {text}")
                self.assertIs(type(refusal), NoText)
                self.assertEqual(refusal.part, part)
        self.assertEqual(desk.say("show a"), TEXT)
        self.check_kept(desk, "show b", "b")

    def test_rows_turned_at_one_sign(self):
        """Each such row is answered or refused as its words say, told a second time."""
        signs = " a0+;:x1\nB"
        for row in ("show a", "share a 0+1", "core a 0", "size a 2", "with a 1", "paper", "web a 1 1; 0:1", "densest a"):
            for at in range(len(row) + 1):
                for other in [row[:at] + row[at + 1:]] + [
                    row[:at] + sign + row[at + end:] for sign in signs for end in (0, 1)
                ]:
                    self.assertEqual(answer_of(desk_with(), other), plain_answer(other), other)


def plain_answer(row):
    """What a desk that keeps WEB as a answers, or the refusal's kind and fields."""
    words = row.split(" ")
    call = (NoCall, {"row": row})
    if row == "paper":
        return "none"
    if len(words) < 2 or not words[1].isalpha() or not words[1].islower() or len(words[1]) > 8:
        return call
    if words[0] == "web":
        if len(words) < 3:
            return call
        try:
            read_web(row[len(words[0]) + len(words[1]) + 2:])
        except NoText as refusal:
            return NoText, {"part": refusal.part}
        return "ok"
    if words[0] not in NAME_WORDS + MORE_WORDS or len(words) != (2 if words[0] in NAME_WORDS else 3):
        return call
    if words[1] != "a":
        return NoKept, {"name": words[1]}
    known = {row: told for row, told, papered in ROWS}
    if row in known:
        return known[row]
    more = {"share a 2": "0", "with a 0": "0+1", "share a 1": "0", "share a 0+2": "2/3", "with a 0+2": "0+1+2"}
    return more.get(row) or ({"size": NoSize}.get(words[0], NoPart), {})


class Steady(unittest.TestCase):
    def test_asked_again_by_turns(self):
        chance = random.Random(263)
        desk = Desk()
        webs = {"a": TEXT, "b": OTHER_TEXT, "great": show_web(great_web(chance))}
        for name, text in webs.items():
            desk.say(f"web {name} {text}")
        rows = [row.replace(" a", f" {name}", 1) for name in webs for row, told, papered in ROWS]
        first = {row: desk.say(row) for row in rows}
        for turn in range(4):
            chance.shuffle(rows)
            for row in rows:
                self.assertEqual(desk.say(row), first[row])


if __name__ == "__main__":
    unittest.main()
