import random
import re
import unittest

from tests.helper import (
    check_refused, great_arrows, great_web, great_webs, odd_things, plain_arrows, plain_web, refusal_of, rows,
    several_webs, some_arrows, tiny_webs,
)
from weblayers.errors import NoArrows, NoText, NoWeb
from weblayers.layers import level_heights
from weblayers.webtexts import read_arrows, read_web, show_arrows, show_number, show_web

WHOLE = "(?:0|[1-9][0-9]*)"
COSTS = re.compile(f"{WHOLE}(?: {WHOLE})*")
TIE = re.compile(f"({WHOLE}(?:[+]{WHOLE})*):({WHOLE})")
WAY = re.compile(f"({WHOLE})>({WHOLE}):({WHOLE})")
WEB_TEXT = "1 1 2; 0+1:3; 2:1"
WEB = ((1, 1, 2), (((0, 1), 3), ((2,), 1)))
SIGNS = " ;:+>/-0123456789aA,.\n\t\r"


def plain_read(text, first, rest, is_one):
    """What a text comes to, or the number of the first piece that isn't so or by which it is none: told a second time."""
    pieces = re.split("; ", text)
    if first[0].fullmatch(pieces[0]) is None:
        return 0
    told = (first[1](pieces[0]), ())
    if not is_one(told):
        return 0
    for at in range(1, len(pieces)):
        match = rest[0].fullmatch(pieces[at])
        if match is None:
            return at
        told = (told[0], told[1] + (rest[1](match.groups()),))
        if not is_one(told):
            return at
    return told


def plain_read_web(text):
    return plain_read(
        text,
        (COSTS, lambda piece: tuple(map(int, piece.split(" ")))),
        (TIE, lambda groups: (tuple(map(int, groups[0].split("+"))), int(groups[1]))),
        plain_web,
    )


def plain_read_arrows(text):
    return plain_read(text, (re.compile(WHOLE), int), (WAY, lambda groups: tuple(map(int, groups))), plain_arrows)


def turned(text):
    """The text with one sign left out, doubled, exchanged, or one added."""
    for at in range(len(text) + 1):
        yield text[:at]
        yield text[at:]
        yield text[:at] + text[at + 1:]
        yield text[:at] + text[at:at + 1] + text[at:]
        for sign in SIGNS:
            yield text[:at] + sign + text[at:]
            yield text[:at] + sign + text[at + 1:]


def turned_pieces(text):
    """The text with one piece left out, doubled, emptied, or moved to the front or the end."""
    pieces = text.split("; ")
    for at, piece in enumerate(pieces):
        ahead, behind = pieces[:at], pieces[at + 1:]
        for row in (
            ahead + behind, ahead + [piece, piece] + behind, ahead + [""] + behind, [piece] + ahead + behind,
            ahead + behind + [piece], ahead + [" " + piece] + behind, ahead + [piece + " "] + behind,
            ahead + [piece + ";"] + behind, ahead + ["0" + piece] + behind, ahead + [piece + "0"] + behind,
        ):
            yield "; ".join(row)


class Texts(unittest.TestCase):
    def check_read(self, read, plain, text):
        told = plain(text)
        if isinstance(told, tuple):
            self.assertEqual(read(text), told)
        else:
            self.check_none(told, read, text)

    def check_none(self, part, read, text):
        refusal = refusal_of(read, text)
        self.assertIs(type(refusal), NoText)
        self.assertEqual((type(refusal.part), refusal.part), (type(part), part))

    def check_web(self, web):
        text = show_web(web)
        self.assertIs(type(text), str)
        self.assertEqual(read_web(text), web)
        self.assertEqual(plain_read_web(text), web)

    def check_arrows(self, arrows):
        text = show_arrows(arrows)
        self.assertIs(type(text), str)
        self.assertEqual(read_arrows(text), arrows)
        self.assertEqual(plain_read_arrows(text), arrows)


class Webs(Texts):
    def test_by_hand(self):
        for web, text in (
            (WEB, WEB_TEXT),
            (((1,), ()), "1"),
            (((100, 1, 20), ()), "100 1 20"),
            (((7,), (((0,), 10 ** 6),)), "7; 0:1000000"),
            (((1, 1, 1, 1), (((0, 1, 2, 3), 12), ((0, 3), 1), ((3,), 9))), "1 1 1 1; 0+1+2+3:12; 0+3:1; 3:9"),
            (((1,) * 12, (((0, 10), 5), ((10, 11), 6))), "1 1 1 1 1 1 1 1 1 1 1 1; 0+10:5; 10+11:6"),
        ):
            self.assertEqual(show_web(web), text)
            self.assertEqual(read_web(text), web)
            self.check_web(web)

    def test_written_and_read_again(self):
        for webs in (tiny_webs(), several_webs(), great_webs(), rows()):
            for web in webs:
                self.check_web(web)
        chance = random.Random(250)
        for turn in range(100):
            self.check_web(great_web(chance))

    def test_which_piece_is_none(self):
        for text, part in (
            ("", 0), (" ", 0), ("0", 0), ("101", 0), ("1 0", 0), ("1  1", 0), (" 1", 0), ("1 ", 0), ("01", 0), ("1 01", 0),
            ("+1", 0), ("-1", 0), ("1,1", 0), ("1;", 0), ("1 ;", 0), ("1;0:1", 0), ("a", 0), ("1\n", 0), ("1\t1", 0),
            ("1\n1", 0), ("1 1 1 1 1 1 1 1 1 1 1 1 1", 0), ("1/1", 0), ("1.0", 0), ("1_0", 0), ("1e1", 0), ("; 0:1", 0),
            ("0:1", 0), ("1; ", 1), ("1;  0:1", 1), ("1; 0:1 ", 1), ("1; 0:1;", 1), ("1; 0:1; ", 2), ("1; 0", 1), ("1; 0:", 1),
            ("1; :1", 1), ("1; :", 1), ("1; 0:0", 1), ("1; 0:01", 1), ("1; 00:1", 1), ("1; 0:1000001", 1), ("1; 0:-1", 1),
            ("1; 0 : 1", 1), ("1; 0:1:1", 1), ("1; 0::1", 1), ("1; 1:1", 1), ("1; 0+:1", 1), ("1; +0:1", 1), ("1; 0+0:1", 1),
            ("1 1; 1+0:1", 1), ("1 1; 0++1:1", 1), ("1 1; 0 1:1", 1), ("1 1; 0+1", 1), ("1 1; 0>1:1", 1), ("1; 0:1\n", 1),
            ("1 1 1 1 1; 0+1+2+3+4:1", 1), ("1 1; 0:1; 0:1", 2), ("1 1; 0:1; 0:2", 2), ("1 1; 1:1; 0:1", 2),
            ("1 1; 0+1:1; 0:1", 2), ("1 1; 0:1; 1:1; x", 3), ("1 1; 0:1; 0:1; x", 2), ("1 1; 0:1; x; 0:1", 2),
            ("0; x", 0), ("x; 0:1", 0), ("1 1; x; 0:0", 1), ("1 1; 0:0; x", 1), ("1; 0:1;; 0:1", 1), ("1; ; 0:1", 1),
        ):
            with self.subTest(text=text):
                self.check_none(part, read_web, text)
                self.assertEqual(plain_read_web(text), part)

    def test_places_costs_and_ties_at_the_limits(self):
        for many in (1, 12, 13):
            self.check_read(read_web, plain_read_web, " ".join(["1"] * many))
        for cost in (0, 1, 100, 101, 1000, 10 ** 30):
            self.check_read(read_web, plain_read_web, f"1 {cost} 1")
        for heavy in (0, 1, 999999, 1000000, 1000001, 10000000, 10 ** 30):
            self.check_read(read_web, plain_read_web, f"1 1; 0:1; 0+1:{heavy}; 1:1")
        for place in (0, 1, 11, 12, 13, 100, 10 ** 30):
            self.check_read(read_web, plain_read_web, " ".join(["1"] * 12) + f"; {place}:3")
        ties = [f"{one}+{other}:1" for one in range(12) for other in range(one + 1, 12)]
        for many in (29, 30, 31, 40):
            text = "; ".join([" ".join(["1"] * 12)] + ties[:many])
            told = plain_read_web(text)
            self.assertEqual(told if many > 30 else len(told[1]), min(many, 31))
            self.check_read(read_web, plain_read_web, text)
            self.check_read(read_web, plain_read_web, text + "; x")

    def test_long_texts(self):
        for text in ("1" * 1000, "0" * 1000, "1 " * 500, "; " * 500, "1; 0:" + "9" * 995, "1; " + "0+" * 400, "x" * 1000):
            self.assertLessEqual(len(text), 1000)
            self.check_read(read_web, plain_read_web, text)
            self.check_read(read_arrows, plain_read_arrows, text)
        # Longer than Python reads numbers.
        for text, part in (("1" * 6000, 0), ("1; 0:" + "1" * 6000, 1), ("1; " + "1" * 6000 + ":1", 1)):
            self.check_none(part, read_web, text)
            self.check_none(part, read_arrows, text)

    def test_other_figures_than_the_usual_ones(self):
        for sign in ("\u0661", "\u00b2", "\uff11", "\u2460", "\u00a0", "I"):
            for text, part in ((sign, 0), ("1 " + sign, 0), ("1" + sign, 0), ("1; 0:" + sign, 1), ("1; " + sign + ":1", 1)):
                self.check_none(part, read_web, text)
            for text, part in ((sign, 0), ("2; 0>1:" + sign, 1), ("2; 0>" + sign + ":1", 1), ("2; " + sign + ">1:1", 1)):
                self.check_none(part, read_arrows, text)

    def test_turned_at_one_sign(self):
        for text in (WEB_TEXT, "1", "10 2; 0+1:30", "1 1 1; 0:1; 0+1+2:7; 1+2:5", "9 9; 1:1000000"):
            for thing in turned(text):
                self.check_read(read_web, plain_read_web, thing)

    def test_turned_at_one_piece(self):
        chance = random.Random(251)
        for web in [WEB, ((1, 1), (((0,), 1), ((0, 1), 2), ((1,), 3)))] + [great_web(chance) for turn in range(3)]:
            for text in turned_pieces(show_web(web)):
                self.check_read(read_web, plain_read_web, text)

    def test_what_is_no_text(self):
        for thing in [one for one in odd_things() if not isinstance(one, str)] + [0, 1, WEB, [WEB_TEXT], (WEB_TEXT,), b"1"]:
            self.check_none(None, read_web, thing)
            self.check_none(None, read_arrows, thing)

    def test_what_is_no_web(self):
        for thing in odd_things() + [0, (), list(WEB), WEB[0], (WEB[0], WEB[1][::-1]), ((0,), ()), WEB_TEXT, (2, ())]:
            check_refused(self, NoWeb, show_web, thing)


class Arrows(Texts):
    def test_by_hand(self):
        for arrows, text in (
            ((1, ()), "1"),
            ((6, ()), "6"),
            ((1, ((0, 0, 5),)), "1; 0>0:5"),
            ((3, ((0, 1, 5), (0, 2, 4), (1, 2, 10 ** 6), (2, 0, 1))), "3; 0>1:5; 0>2:4; 1>2:1000000; 2>0:1"),
        ):
            self.assertEqual(show_arrows(arrows), text)
            self.assertEqual(read_arrows(text), arrows)
            self.check_arrows(arrows)

    def test_written_and_read_again(self):
        chance = random.Random(252)
        for many in range(1, 7):
            self.check_arrows((many, ()))
            for turn in range(40):
                self.check_arrows(some_arrows(chance, many))
        for turn in range(40):
            self.check_arrows(great_arrows(chance))

    def test_which_piece_is_none(self):
        for text, part in (
            ("", 0), ("0", 0), ("7", 0), ("01", 0), ("1 1", 0), (" 1", 0), ("1 ", 0), ("-1", 0), ("x", 0), ("1;", 0), ("1\n", 0),
            ("0>0:1", 0), ("1;0>0:1", 0), ("1; ", 1), ("1; 0>0", 1), ("1; 0>0:", 1), ("1; 0>:1", 1), ("1; >0:1", 1),
            ("1; 0:1", 1), ("1; 0>0:0", 1), ("1; 0>0:01", 1), ("1; 00>0:1", 1), ("1; 0>00:1", 1), ("1; 0>0:1000001", 1),
            ("1; 0>1:1", 1), ("1; 1>0:1", 1), ("1; 0>0:1; ", 2), ("1; 0>0:1;", 1), ("1; 0 > 0:1", 1), ("1; 0>>0:1", 1),
            ("1; 0>0:1:1", 1), ("1; 0>0>0:1", 1), ("1; 0:0>1", 1), ("1; 0+0:1", 1), ("1; 0>-0:1", 1), ("1;  0>0:1", 1),
            ("2; 0>1:1; 0>1:2", 2), ("2; 0>1:1; 0>0:2", 2), ("2; 1>0:1; 0>1:2", 2), ("2; 0>0:1; 1>1:1; x", 3),
            ("2; 0>1:1; 0>1:1; x", 2), ("2; 0>1:1; x; 0>1:1", 2), ("0; x", 0), ("2; 0>0:1 ; 1>1:1", 1),
        ):
            with self.subTest(text=text):
                self.check_none(part, read_arrows, text)
                self.assertEqual(plain_read_arrows(text), part)

    def test_the_most_ways(self):
        ways = [f"{start}>{goal}:7" for start in range(6) for goal in range(6)]
        for many in (19, 20, 21, 25):
            text = "; ".join(["6"] + ways[:many])
            told = plain_read_arrows(text)
            self.assertEqual(told if many > 20 else len(told[1]), min(many, 21))
            self.check_read(read_arrows, plain_read_arrows, text)
            self.check_read(read_arrows, plain_read_arrows, text + "; x")
        for heavy in (0, 1, 1000000, 1000001, 10 ** 30):
            self.check_read(read_arrows, plain_read_arrows, f"2; 0>0:1; 0>1:{heavy}; 1>1:1")

    def test_turned_at_one_sign(self):
        for text in ("3; 0>1:5; 0>2:40; 2>0:1", "1", "2; 0>0:1000000"):
            for thing in turned(text):
                self.check_read(read_arrows, plain_read_arrows, thing)

    def test_turned_at_one_piece(self):
        chance = random.Random(253)
        for arrows in [(3, ((0, 1, 5), (0, 2, 4)))] + [great_arrows(chance) for turn in range(3)]:
            for text in turned_pieces(show_arrows(arrows)):
                self.check_read(read_arrows, plain_read_arrows, text)

    def test_what_is_no_arrows(self):
        for thing in odd_things() + [0, (), WEB, [1, ()], (0, ()), (7, ()), "1", (2, ((1, 0, 1), (0, 1, 1)))]:
            check_refused(self, NoArrows, show_arrows, thing)


class Numbers(unittest.TestCase):
    def test_by_hand(self):
        for one, text in (
            ((0, 1), "0"), ((1, 1), "1"), ((3, 2), "3/2"), ((1, 2), "1/2"), ((10 ** 9, 1), "1000000000"),
            ((10 ** 9, 999999), "1000000000/999999"), ((1, 10 ** 6), "1/1000000"), ((-3, 2), "-3/2"), ((-7, 1), "-7"),
            ((12, 1), "12"), ((100, 11), "100/11"),
        ):
            self.assertEqual(show_number(one), text)

    def test_what_is_told(self):
        chance = random.Random(254)
        for turn in range(20):
            for one in level_heights(great_web(chance)):
                text = show_number(one)
                self.assertRegex(text, "^(0|[1-9][0-9]*)(/[1-9][0-9]*)?$")
                top, parting, bottom = text.partition("/")
                self.assertEqual((int(top), int(bottom or 1)), one)
                self.assertNotEqual(bottom, "1")


if __name__ == "__main__":
    unittest.main()
