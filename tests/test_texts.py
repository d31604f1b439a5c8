"""Points 2, 3 (f) and 23: what is written, what is read, and what is refused."""

import random
import unittest

from nonegrowsrich.doubters import is_doubter
from nonegrowsrich.errors import NoText, Refused
from nonegrowsrich.expressions import is_expression
from nonegrowsrich.houses import is_house
from nonegrowsrich.shares import is_shares
from nonegrowsrich.shelf import after, lagging, rival, tent
from nonegrowsrich.texts import (
    read_doubter, read_expression, read_house, read_shares, show_doubter, show_expression, show_house, show_shares,
)
from tests.anything import broad, chain, wrong_things
from tests.crooked import full_of_all
from tests.expression_maker import expression_by, shares_by
from tests.house_maker import NONE, ZERO, chain_of_houses, doubter_by, doubter_of, fig, house_by, inner, one_of

# (expression, its text), each word at least once.
EXPRESSIONS = (
    (("fig", 0), "fig 0"), (("fig", -1000), "fig -1000"), (("fig", 1000), "fig 1000"), (("reg", 3), "reg 3"),
    (("share", 1), "share 1"), (("sum", ("share", 0), ("fig", -5)), "sum share 0 fig -5"),
    (("less", ("reg", 0), ("share", 1)), "less reg 0 share 1"), (("times", -9, ("share", 0)), "times -9 share 0"),
    (("by", 2, ("reg", 0)), "by 2 reg 0"), (("least", ("fig", 1), ("fig", 2)), "least fig 1 fig 2"),
    (("most", ("fig", 1), ("least", ("fig", 2), ("fig", 3))), "most fig 1 least fig 2 fig 3"),
    (("when", 0, -7, ("fig", 1), ("fig", 2)), "when 0 -7 fig 1 fig 2"),
    (("where", 1, 250, ("fig", 0), ("share", 1)), "where 1 250 fig 0 share 1"),
)

DEEDS = (
    ((), "behind"),
    ((("put", 0, 5),), "behind put 0 5"),
    ((("told", 1, 1), ("add", 3, -1000)), "behind told 1 1 add 3 -1000"),
    ((("copy", 0, 3), ("plus", 2, 1)), "behind copy 0 3 plus 2 1"),
    ((("when", 0, 5, (("add", 0, 1),), ()),), "behind when 0 5 ( add 0 1 ) ( )"),
    ((("when", 0, 5, (), (("when", 1, -5, (("put", 0, 0), ("put", 1, 1)), ()), ("add", 0, 1))), ("put", 2, 2)),
     "behind when 0 5 ( ) ( when 1 -5 ( put 0 0 put 1 1 ) ( ) add 0 1 ) put 2 2"),
)

DOUBTER = ("doubter", 4, (1, -2, 0, 1000), (("sum", ("share", 0), ("fig", -5)), ("fig", 0)), ((("put", 0, 5),), ()))
DOUBTER_TEXT = "doubter doubter 4 1 -2 0 1000\nstake sum share 0 fig -5\nstake fig 0\nbehind put 0 5\nbehind"
ONE = ("one", DOUBTER, (4, 3, 2, -1), 10 ** 12, 0, 17, 3, -99)
ONE_TEXT = "one 1000000000000 0 17 3 -99 4 3 2 -1\n" + DOUBTER_TEXT
HOUSE = (2, (ONE, inner(inner(ONE, name="out"), name="in"), inner(name="house"), ONE))
HOUSE_TEXT = "\n".join(["house 2", ONE_TEXT, "in in", "in out", ONE_TEXT, "out", "out", "in house", "out", ONE_TEXT])
HOUSE_OF_MUCH = (2, (inner(one_of(("in", 0, ZERO, (fig(1), ("where", 0, 500, NONE, fig(2))), (
    (("when", 0, 5, (("add", 0, 1),), ()),), (("told", 1, 1),))), 12), name="out"), inner(name="one")))


class TextsCase(unittest.TestCase):
    def refuses(self, read, *row):
        with self.assertRaises(NoText) as caught:
            read(*row)
        self.assertIs(type(caught.exception), NoText)
        self.assertIsInstance(caught.exception, Refused)


class ExpressionTest(TextsCase):
    def test_each_word(self):
        for expression, text in EXPRESSIONS:
            self.assertEqual(show_expression(expression), text)
            self.assertEqual(read_expression(text, 2), expression)
            self.assertEqual(read_expression(text=text, many=3), expression)

    def test_the_most(self):
        for expression in (broad(40), chain(8), broad(1), ("times", 1, broad(39))):
            self.assertTrue(is_expression(expression, 2))
            self.assertEqual(read_expression(show_expression(expression), 2), expression)
        for expression in (broad(41), chain(9), chain(2000), ("sum", broad(20), broad(20))):
            self.refuses(read_expression, plain_text(expression), 2)

    def test_by_chance(self):
        for seed in range(300):
            chance = random.Random(seed)
            many = chance.choice((2, 3))
            expression = expression_by(chance, many, 38, 8)
            text = show_expression(expression)
            self.assertEqual(text, plain_text(expression))
            self.assertEqual(read_expression(text, many), expression)

    def test_what_is_no_expression(self):
        for text in (
            "fig 1001", "fig -1001", "reg 4", "reg -1", "share 2", "share -1", "times 10 fig 1", "times -10 fig 1",
            "by 4 fig 1", "when 4 0 fig 1 fig 1", "when 0 1001 fig 1 fig 1", "where 2 5 fig 1 fig 1",
            "where 0 0 fig 1 fig 1", "where 0 1001 fig 1 fig 1", "where 0 -1 fig 1 fig 1",
        ):
            self.refuses(read_expression, text, 2)
        self.assertEqual(read_expression("share 2", 3), ("share", 2))
        self.assertEqual(read_expression("where 2 5 fig 1 fig 1", 3), ("where", 2, 5, ("fig", 1), ("fig", 1)))
        self.refuses(read_expression, "share 3", 3)

    def test_written_otherwise(self):
        for expression, text in EXPRESSIONS:
            for wrong in spoilt_texts(text):
                self.refuses(read_expression, wrong, 2)
        for text in ("", " ", "fig", "sum", "sum fig 1", "fig 1 2", "fig 1 fig 2", "5", "fig fig 1", "sum 1 2", "FIG 1",
                     "Fig 1", "fig one", "( fig 1 )", "fig 1;", "fig,1", "fig:1", "put 0 5", "times fig 1", "figs 1"):
            self.refuses(read_expression, text, 2)


class DoubterTest(TextsCase):
    def test_texts(self):
        self.assertEqual(show_doubter(DOUBTER), DOUBTER_TEXT)
        self.assertEqual(read_doubter(DOUBTER_TEXT, 2), DOUBTER)
        self.assertEqual(read_doubter(text=DOUBTER_TEXT, many=2), DOUBTER)
        self.refuses(read_doubter, DOUBTER_TEXT, 3)
        for deeds, line in DEEDS:
            doubter = doubter_of(2, behinds=(deeds, ()))
            text = "doubter a 0 0 0 0 0\nstake fig 0\nstake fig 0\n" + line + "\nbehind"
            self.assertEqual(show_doubter(doubter), text)
            self.assertEqual(read_doubter(text, 2), doubter)

    def test_names_that_are_words(self):
        for name in ("doubter", "stake", "behind", "one", "in", "out", "house", "put", "when", "fig", "a", "zzzzzzzz"):
            doubter = doubter_of(3, name)
            self.assertEqual(read_doubter(show_doubter(doubter), 3), doubter)
            house = (3, (inner(inner(name=name), one_of(doubter, 3), name=name),))
            self.assertEqual(read_house(show_house(house)), house)

    def test_the_shelf(self):
        for many in (2, 3):
            told = (200, 800) if many == 2 else (200, 300, 500)
            for doubter in (tent(many, 1, 1000, 500, -1), rival(many, told), after(many, 0, 1, -1), lagging(many)):
                self.assertEqual(read_doubter(show_doubter(doubter), many), doubter)

    def test_by_chance(self):
        for seed in range(150):
            chance = random.Random(seed)
            many = chance.choice((2, 3))
            doubter = doubter_by(chance, many)
            self.assertTrue(is_doubter(doubter, many))
            self.assertEqual(read_doubter(show_doubter(doubter), many), doubter)

    def test_what_is_no_doubter(self):
        lines = DOUBTER_TEXT.split("\n")
        for at, line in (
            (0, "doubter Doubter 4 1 -2 0 1000"), (0, "doubter doubters 5 1 -2 0 1000"), (0, "doubter abcdefghi 4 0 0 0 0"),
            (0, "doubter a -1 1 -2 0 1000"), (0, "doubter a 4 1 -2 0 1001"), (0, "doubter a 4 1 -2 0"),
            (0, "doubter a 4 1 -2 0 1000 0"), (0, "doubter  4 1 -2 0 1000"), (0, "doubter 4 1 -2 0 1000"), (0, "one"),
            (0, "doubter a a 1 -2 0 1000"), (0, "doubt a 4 1 -2 0 1000"), (1, "stake times 9 fig 1000"), (1, "stake"),
            (1, "stake fig 0 fig 0"), (1, "stakes fig 0"), (1, "fig 0"), (1, "behind"), (2, "stake share 2"), (3, "stake fig 0"),
            (3, "behind put 4 0"), (3, "behind put 0 1001"), (3, "behind told 0 2"), (3, "behind put 0"),
            (3, "behind put 0 5 6"), (3, "behind fig 0"), (3, "behind ("), (3, "behind )"), (3, "behind ( )"),
            (3, "behind ( put 0 5 )"), (3, "behind when 0 5"), (3, "behind when 0 5 ( )"), (3, "behind when 0 5 ( ) ("),
            (3, "behind when 0 5 ( ) ( ) )"), (3, "behind when 0 5 ( ) ( ) ( )"), (3, "behind when 0 5 ) ( ( )"),
            (3, "behind when 0 5 () ()"), (3, "behind when 0 5 (add 0 1) ( )"), (3, "behind when 0 5 ( add 0 1 ( )"),
            (3, "behind when 0 5 [ ] [ ]"), (3, "behind when 0 5 put 0 1 put 0 1"), (3, "behind " + "put 0 0 " * 20 + "put 0 0"),
            (3, "behind " + "when 0 0 ( " * 4 + "put 0 0" + " ) ( )" * 4), (3, "behind "), (3, " behind"), (4, ""), (4, "behind behind"),
        ):
            text = "\n".join(lines[:at] + [line] + lines[at + 1:])
            self.refuses(read_doubter, text, 2)

    def test_the_most_deeds(self):
        for line in ("behind" + " put 0 0" * 20, "behind " + "when 0 0 ( " * 3 + "put 0 0" + " ) ( )" * 3,
                     "behind " + "when 0 0 ( " * 4 + ") ( )" + " ) ( )" * 3):
            text = DOUBTER_TEXT[:DOUBTER_TEXT.rindex("\n")] + "\n" + line
            self.assertEqual(show_doubter(read_doubter(text, 2)), text)
        deep = DOUBTER_TEXT[:DOUBTER_TEXT.rindex("\n")] + "\nbehind" + " when 0 0 (" * 3000
        self.refuses(read_doubter, deep, 2)

    def test_lines_more_fewer_exchanged(self):
        lines = DOUBTER_TEXT.split("\n")
        for at in range(len(lines)):
            self.refuses(read_doubter, "\n".join(lines[:at] + lines[at + 1:]), 2)
            self.refuses(read_doubter, "\n".join(lines[:at] + [""] + lines[at:]), 2)
            self.refuses(read_doubter, "\n".join(lines[:at] + [lines[at]] + lines[at:]), 2)
        self.refuses(read_doubter, "\n".join(lines[1:2] + lines[:1] + lines[2:]), 2)
        self.refuses(read_doubter, "\n".join(lines[:2] + lines[3:4] + lines[2:3] + lines[4:]), 2)

    def test_written_otherwise(self):
        for text in (DOUBTER_TEXT, show_doubter(doubter_of(2, behinds=(DEEDS[4][0], DEEDS[2][0])))):
            for wrong in spoilt_texts(text):
                self.refuses(read_doubter, wrong, 2)


class HouseTest(TextsCase):
    def test_texts(self):
        self.assertEqual(show_house(HOUSE), HOUSE_TEXT)
        self.assertEqual(read_house(HOUSE_TEXT), HOUSE)
        self.assertEqual(read_house(text=HOUSE_TEXT), HOUSE)
        for many in (2, 3):
            self.assertEqual(show_house((many, ())), f"house {many}")
            self.assertEqual(read_house(f"house {many}"), (many, ()))

    def test_the_most(self):
        for many in (2, 3):
            house = (many, full_of_all(many))
            self.assertTrue(is_house(house))
            self.assertEqual(read_house(show_house(house)), house)

    def test_by_chance(self):
        for seed in range(60):
            chance = random.Random(seed)
            house = house_by(chance, chance.choice((2, 3)))
            self.assertEqual(read_house(show_house(house)), house)

    def test_what_is_no_house(self):
        for house in (
            (2, (inner(),) * 13), (2, (chain_of_houses(4),)), (2, (chain_of_houses(7),)), (2, (chain_of_houses(2000),)),
            (2, (one_of(doubter_of(2)),) * 13), (2, full_of_all(2) + (one_of(doubter_of(2)),)), (2, (one_of(doubter_of(3)),)),
            (3, (one_of(doubter_of(2)),)), (2, (inner(name=""),)), (2, (inner(name="A"),)), (2, (inner(name="abcdefghi"),)),
        ):
            self.assertFalse(is_house(house))
            self.refuses(read_house, plain_house(house))
        for at, numbers in ((0, (0, -1, 10 ** 12 + 1)), (1, (-1,)), (2, (-1,)), (3, (-1,)), (5, (1001, -1001)), (8, (1001,))):
            for number in numbers:
                words = "one 1 0 17 3 -99 4 3 2 -1".split(" ")
                words[at + 1] = str(number)
                self.refuses(read_house, "house 2\n" + " ".join(words) + "\n" + DOUBTER_TEXT)

    def test_lines_more_fewer_exchanged(self):
        lines = HOUSE_TEXT.split("\n")
        for at in range(len(lines)):
            self.refuses(read_house, "\n".join(lines[:at] + [""] + lines[at:]))
            self.refuses(read_house, "\n".join(lines[:at] + ["in"] + lines[at:]))
            self.refuses(read_house, "\n".join(lines[:at] + ["in a"] + lines[at:]))
            if at:
                self.refuses(read_house, "\n".join(lines[:at] + ["out"] + lines[at:]))
            self.refuses(read_house, "\n".join(lines[:at] + lines[at + 1:]))
        for text in ("", "house", "house 1", "house 4", "house 02", "house 2 2", "house two", "house  2", "house 2\nout",
                     "house 2\nin a", "house 2\nin a\nout\nout", "house 2\nin a b\nout", "house 2\nin\nout", "in a\nout",
                     "house 2\nin a\nout ", "house 2\nin a\n out", "house 2\nout\nin a", "house 3\nhouse 3", "House 2",
                     "house 2\nin a\nout a", "house 2\none", "house 2\n" + DOUBTER_TEXT, "house 2\nin a\n\nout"):
            self.refuses(read_house, text)

    def test_written_otherwise(self):
        for wrong in spoilt_texts(show_house(HOUSE_OF_MUCH)):
            self.refuses(read_house, wrong)

    def test_long_numbers(self):
        for number in (10 ** 3999, 10 ** 4000 - 1, 10 ** 63, 10 ** 64, 10 ** 64 + 7, 10 ** 128 - 1):
            house = (2, (one_of(doubter_of(2), number, owed=number - 1, days=number, got=-number),))
            self.assertEqual(read_house(show_house(house)), house)
            self.assertIn(f" {number} ", show_house(house))
        for at in (1, 2, 3):
            words = "one 1 0 17 3 -99 4 3 2 -1".split(" ")
            words[at + 1] = "9" * 4000
            self.assertEqual(read_house("house 2\n" + " ".join(words) + "\n" + DOUBTER_TEXT)[1][0][at + 3], 10 ** 4000 - 1)
            words[at + 1] = "9" * 4001
            self.refuses(read_house, "house 2\n" + " ".join(words) + "\n" + DOUBTER_TEXT)
        for figures, taken in ((4000, True), (4001, False)):
            text = "house 2\none 1 0 0 0 -" + "1" * figures + " 0 0 0 0\n" + DOUBTER_TEXT
            if taken:
                self.assertEqual(read_house(text)[1][0][7], -(10 ** 4000 // 9))
            else:
                self.refuses(read_house, text)
        longer = (2, (one_of(doubter_of(2), 10 ** 5000 + 1),))
        self.assertIn("one 1 1" + "0" * 4999 + "1 0 0 0", show_house(longer))
        self.refuses(read_house, show_house(longer))


class SharesTest(TextsCase):
    def test_texts(self):
        for shares, text in (((1, 2), "1:2"), ((0, 1), "0:1"), ((3, 0, 5), "3:0:5"), ((10 ** 30, 1), "1" + "0" * 30 + ":1")):
            self.assertEqual(show_shares(shares), text)
            self.assertEqual(read_shares(text, len(shares)), shares)
            self.assertEqual(read_shares(text=text, many=len(shares)), shares)
            self.refuses(read_shares, text, 5 - len(shares))

    def test_by_chance(self):
        for seed in range(100):
            chance = random.Random(seed)
            shares = shares_by(chance, chance.choice((2, 3)))
            self.assertTrue(is_shares(shares, len(shares)))
            self.assertEqual(read_shares(show_shares(shares), len(shares)), shares)

    def test_long_numbers(self):
        long = 10 ** 4000 - 1
        self.assertEqual(read_shares(show_shares((long, 1)), 2), (long, 1))
        self.refuses(read_shares, show_shares((long + 1, 1)), 2)
        self.refuses(read_shares, show_shares((1, 10 ** 5000)), 2)

    def test_no_shares(self):
        for text in ("", ":", "1", "1:", ":1", "1::1", "0:0", "2:4", "0:2", "1:2:3", "-1:2", "1:-2", "1 2", "1: 2", " 1:2",
                     "1:2 ", "1:2\n", "01:2", "1:02", "+1:2", "1:+2", "1_0:1", "1.0:1", "-0:1", "00:1", "a:b", "1;2",
                     "1/2", "\u0661:2", "\uff11:2", "1:\u00b2", "1\t:2", "True:1", "1e1:1", "0x1:1"):
            self.refuses(read_shares, text, 2)


class OfAnythingTest(TextsCase):
    def test_things_that_are_no_text(self):
        for thing in wrong_things() + [b"fig 0", ["fig 0"], ("fig 0",), 5, 2.5, HOUSE, DOUBTER, {"fig 0": 1}]:
            self.refuses(read_house, thing)
            for many in (2, 3):
                self.refuses(read_doubter, thing, many)
                if thing != "share 0":
                    self.refuses(read_expression, thing, many)
                if thing != "1:2" or many == 3:
                    self.refuses(read_shares, thing, many)


def plain_text(expression):
    """The words of a thing that is written as an expression is, whatever its size."""
    words, rest = [], [expression]
    while rest:
        thing = rest.pop()
        if isinstance(thing, tuple):
            rest += thing[::-1]
        else:
            words.append(str(thing))
    return " ".join(words)


def plain_house(house):
    """The text of a house that may be none."""
    lines, rest = [f"house {house[0]}"], list(house[1][::-1])
    while rest:
        thing = rest.pop()
        if thing == "out":
            lines.append(thing)
        elif thing[0] == "house":
            lines.append("in " + thing[1])
            rest += ["out"] + list(thing[2][::-1])
        else:
            lines.append("one " + " ".join(str(number) for number in thing[3:] + thing[2]))
            lines.append(show_doubter(thing[1]))
    return "\n".join(lines)


def spoilt_texts(text):
    """The text spoilt at every place: nothing is written so by any of these."""
    found = [text + end for end in (" ", "\n", "\t", ";", "\r", "\0", " \n", "\n\n", "\x0b", "\u00a0", "\u2028")]
    found += [start + text for start in (" ", "\n", "\t", ";", "\ufeff")]
    for at, sign in enumerate(text):
        if sign in " \n":
            for other in ("  ", "\t", "\n " if sign == "\n" else "\n", " \n" if sign == "\n" else "\u00a0", "", "\r\n"):
                found.append(text[:at] + other + text[at + 1:])
        if sign.isdigit():
            alphabets = ("\u0660", "\uff10", "\u06f0", "\u0966")
            found += [text[:at] + chr(ord(zero) + int(sign)) + text[at + 1:] for zero in alphabets]
            found.append(text[:at] + sign + "_0" + text[at + 1:])
            found.append(text[:at] + sign + ".0" + text[at + 1:])
    words = text.replace("\n", " \n ").split(" ")
    for at, word in enumerate(words):
        others = []
        if word.lstrip("-").isdigit():
            others = ["0" + word, "+" + word, "--" + word, "-0", word + "a", "'" + word + "'", word + ".", "x", "", "00"]
            others += ["-0" + word.lstrip("-"), "1" * 4001, word + ",", "0x1", "1e0", "None", "True"]
        elif word != "\n":
            others = [word.upper(), "", word + "\u0301"]
            # A name may well be another name.
            if not at or words[at - 1] not in ("in", "doubter"):
                others += [word + "x", "x", "0", "(", ")", word + " " + word]
        for other in others:
            if other != word:
                found.append(" ".join(words[:at] + [other] + words[at + 1:]).replace(" \n ", "\n"))
    return found


if __name__ == "__main__":
    unittest.main()
