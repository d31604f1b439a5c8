"""Points 2, 3 (f) and 24: Desk beside a Keeper that is led alike."""

import random
import unittest

from nonegrowsrich.chances import off, sure
from nonegrowsrich.desk import Desk
from nonegrowsrich.errors import (
    Crowded, Halted, Missing, NoHouse, NoLine, NoName, NoPlace, NoSign, NotRight, NotTold, NoWeight, Nothing, Refused, Told,
)
from nonegrowsrich.houses import is_right, motes, ones, pull
from nonegrowsrich.keeper import Keeper
from nonegrowsrich.shelf import after, lagging, rival, tent
from nonegrowsrich.texts import read_house, show_doubter, show_house, show_shares
from tests.anything import wrong_things
from tests.house_maker import NONE, doubter_by, doubter_of, fig

RIVAL = rival(2, (400, 600))
LEAP = doubter_of(2, "leap", stakes=(("where", 0, 500, fig(1), fig(-1)), NONE))


def text_of(doubter):
    return show_doubter(doubter).replace("\n", ";")


RIVAL_TEXT = text_of(RIVAL)


def path_text(path):
    return ".".join(str(number) for number in path) or "-"


class DeskCase(unittest.TestCase):
    def desk_of(self, *lines, many=2):
        desk = Desk(many)
        for line in lines:
            desk.say(line)
        return desk

    def refused(self, desk, kind, line):
        """The error of a line that is refused by just that kind, all as it was."""
        before = [desk.say(word) for word in ("show", "moved", "days", "motes")]
        with self.assertRaises(kind) as caught:
            desk.say(line)
        self.assertIs(type(caught.exception), kind, line)
        self.assertEqual([desk.say(word) for word in ("show", "moved", "days", "motes")], before)
        return caught.exception

    def says(self, desk, *pairs):
        for line, told in pairs:
            self.assertEqual(desk.say(line), told, line)


class NewTest(DeskCase):
    def test_many(self):
        for many in (2, 3):
            self.says(Desk(many=many), ("show", f"house {many}"), ("motes", "0"), ("moved", "0 0"), ("days", "0"))

    def test_of_anything_else(self):
        for many in [0, 1, 4, True, None, "2", 2.0, (2,)] + wrong_things():
            with self.assertRaises(NoHouse) as caught:
                Desk(many)
            self.assertIs(type(caught.exception), NoHouse)

    def test_its_own_methods(self):
        self.assertIn("say", vars(Desk))
        self.assertIn("__init__", vars(Desk))


class LinesTest(DeskCase):
    def test_each_word(self):
        desk = Desk(2)
        self.says(
            desk,
            ("found - inn", "0"), ("found 0 room", "0.0"), ("join 0.0 7 " + RIVAL_TEXT, "0.0.0"),
            ("join - 3 " + RIVAL_TEXT, "1"), ("motes", "10"), ("moved", "10 0"), ("pull 1:1", "-2000 2000"),
            ("right 1:1", "no"), ("right 2:3", "yes"), ("off 1", "0"), ("sure 1", "0"), ("days", "0"),
            ("tell", "2:3"), ("untell", "done"), ("tell 2:3", "2:3"), ("see 1", "10"), ("days", "1"),
            ("off 0.0.0", "0"), ("sure 0.0.0", "0"), ("leave 1", "3"), ("moved", "10 3"), ("motes", "7"),
            ("back", "leave"), ("moved", "10 0"), ("back", "see"), ("days", "0"), ("back", "join"), ("leave 0", "7"),
            ("show", "house 2"), ("tell 3:4", "3:4"), ("see 0", "0"), ("back", "see"),
        )

    def test_show(self):
        desk = self.desk_of("found - in", "join 0 5 " + RIVAL_TEXT)
        self.assertEqual(desk.say("show"), "house 2;in in;one 5 5 0 0 0 400 600 0 0;" + RIVAL_TEXT + ";out")

    def test_by_name(self):
        self.assertEqual(Desk(3).say(line="motes"), "0")

    def test_none(self):
        desk = self.desk_of("join - 5 " + text_of(LEAP))
        self.says(desk, ("tell", "none"), ("tell", "none"))
        self.refused(desk, NotTold, "see 0")
        self.refused(desk, NotRight, "tell 1:1")

    def test_off_and_sure(self):
        doubter = doubter_of(2, stakes=(fig(500), fig(-500)))
        opposite = doubter_of(2, stakes=(fig(-500), fig(500)))
        desk = self.desk_of("join - 1000 " + text_of(doubter), "join - 1000 " + text_of(opposite), "tell 1:1", "see 0")
        keeper = Keeper(2)
        for one in (doubter, opposite):
            keeper.join((), one, 1000)
        keeper.tell((1, 1))
        keeper.see(0)
        for path, one in ones(keeper.house()):
            self.says(desk, (f"off {path_text(path)}", str(off(one))), (f"sure {path_text(path)}", str(sure(one))))
        self.assertEqual([desk.say("off 0"), desk.say("off 1")], ["0", "-1"])

    def test_numbers_of_three(self):
        desk = self.desk_of("join - 5 " + text_of(rival(3, (100, 200, 700))), many=3)
        self.says(desk, ("pull 1:1:2", "-3000 -1000 4000"), ("tell", "1:2:7"), ("see 2", "5"), ("right 1:2:7", "yes"))

    def test_long_numbers(self):
        desk = Desk(2)
        long = "9" * 4000
        self.assertEqual(desk.say(f"tell {long}:1"), f"{long}:1")
        desk.say("untell")
        self.assertEqual(desk.say(f"pull {long}:1"), "0 0")
        self.refused(desk, NoLine, f"tell 1{long}:1")
        self.assertEqual(self.refused(desk, NoPlace, f"leave {long}").path, (10 ** 4000 - 1,))
        self.refused(desk, NoLine, f"leave 1{long}")
        self.refused(desk, NoWeight, f"join - {long} {RIVAL_TEXT}")
        self.refused(desk, NoLine, f"join - 1{long} {RIVAL_TEXT}")
        desk.say("tell")
        self.refused(desk, NoSign, f"see {long}")
        self.refused(desk, NoLine, f"see 1{long}")


class RefusedTest(DeskCase):
    def test_as_the_keeper(self):
        desk = self.desk_of("found - inn", "join 0 5 " + RIVAL_TEXT)
        for name in ("", "A", "abcdefghi", "a;b", "a.b", "1", "\t", "\u00e9", "-"):
            self.assertIsInstance(self.refused(desk, NoName, f"found - {name}"), Refused)
            self.refused(desk, NoName, f"found 9.9 {name}")
        for line, path in (
            ("found 1 a", (1,)), ("found 0.0 a", (0, 0)), ("found 0.1.2 a", (0, 1, 2)), ("join 7 5 " + RIVAL_TEXT, (7,)),
            ("leave -", ()), ("leave 1", (1,)), ("leave 0.1", (0, 1)), ("leave 0.0.0", (0, 0, 0)), ("off -", ()),
            ("off 0", (0,)), ("off 1", (1,)), ("off 0.0.0", (0, 0, 0)), ("sure -", ()), ("sure 0", (0,)), ("sure 0.1", (0, 1)),
        ):
            error = self.refused(desk, NoPlace, line)
            self.assertEqual(error.path, path)
            self.assertIsInstance(error.path, tuple)
            self.assertIsInstance(error, Missing)
        self.refused(desk, NoWeight, "join - 0 " + RIVAL_TEXT)
        self.refused(desk, NoWeight, "join 9 1000000000001 " + RIVAL_TEXT)
        self.refused(desk, NotTold, "see 0")
        self.refused(desk, NotTold, "see 9")
        self.assertIsInstance(self.refused(desk, NotTold, "untell"), Halted)
        self.assertEqual(self.refused(desk, NotRight, "tell 1:1").number, 0)
        self.refused(Desk(2), Nothing, "back")

    def test_crowded(self):
        desk = Desk(2)
        for k in range(12):
            desk.say("found - h")
            desk.say("join 0 1 " + RIVAL_TEXT)
        self.assertEqual(self.refused(desk, Crowded, "found - h").what, "houses")
        self.assertEqual(self.refused(desk, Crowded, "join - 1 " + RIVAL_TEXT).what, "ones")

    def test_while_told(self):
        desk = self.desk_of("join - 5 " + RIVAL_TEXT, "tell")
        for line in ("found - a", "found - ", "found 9 A", "join - 1 " + RIVAL_TEXT, "join 9 0 " + RIVAL_TEXT, "leave 0",
                     "leave 9", "tell", "tell 2:3", "tell 1:1"):
            self.assertIsInstance(self.refused(desk, Told, line), Halted)
        for line in ("found -", "found x A", "join - 1", "join - x " + RIVAL_TEXT, "leave", "leave x", "tell ", "tell 4:6",
                     "tell 1:1:1", "see x", "see", "see -1", "see 00", "join - 1 " + RIVAL_TEXT + ";"):
            self.refused(desk, NoLine, line)
        self.refused(desk, NoSign, "see 2")
        self.says(desk, ("motes", "5"), ("right 2:3", "yes"), ("off 0", "0"), ("back", "join"))
        self.refused(desk, NotTold, "untell")

    def test_back_while_told_without_deeds(self):
        desk = self.desk_of("tell 1:6")
        self.refused(desk, Nothing, "back")
        self.says(desk, ("see 0", "0"), ("days", "1"))


class NoLineTest(DeskCase):
    def test_of_anything(self):
        desk = self.desk_of("found - inn", "join 0 5 " + RIVAL_TEXT)
        for thing in wrong_things() + [b"motes", ["motes"], ("motes",), {"motes": 1}, 5.5, Desk]:
            self.refused(desk, NoLine, thing)

    def test_of_no_form(self):
        desk = self.desk_of("found - inn", "join 0 5 " + RIVAL_TEXT)
        lines = ["found - a", "join - 5 " + RIVAL_TEXT, "leave 0.0", "tell", "tell 2:3", "see 0", "untell", "back", "motes",
                 "moved", "pull 1:1", "right 1:1", "off 0.0", "sure 0.0", "days", "show"]
        for line in lines:
            word = line.split(" ")[0]
            for wrong in (
                line + "\n", "\n" + line, line + " \n", " " + line, line + " x y", line + "\t", line.replace(" ", "\n"),
                line.upper(), line.capitalize(), line.replace(" ", "  "), line.replace(" ", "\t"), word + "s", "x " + line,
                line + " " + line, line.replace(" ", ""), word + "\0",
            ):
                if wrong not in (line, "found - a\t"):
                    self.refused(desk, NoLine, wrong)
            if not line.startswith("found"):
                for wrong in (line + " ", line + ";", line + ".", line + ","):
                    self.refused(desk, NoLine, wrong)
        for wrong in ("", " ", "-", ";", "house", "keeper", "trial", "repr", "rows", "moted", "none", "0", "fig 0"):
            self.refused(desk, NoLine, wrong)

    def test_words_more_and_fewer(self):
        desk = Desk(2)
        for line in (
            "found", "found -", "found a", "found - a b", "found - a ", "found -  a", "join", "join -", "join - 5", "join - 5 ",
            "join " + RIVAL_TEXT, "join - " + RIVAL_TEXT, "leave", "leave ", "leave 0 0", "tell ", "tell 1:2 1:2", "tell none",
            "see", "see ", "see 0 0", "untell ", "untell 0", "back 1", "motes 0", "moved -", "pull", "pull ", "pull 1:2 3:4",
            "right", "right 1", "off", "off 0 0", "sure", "days 0", "show 0", "show house",
        ):
            self.refused(desk, NoLine, line)

    def test_paths(self):
        desk = self.desk_of("found - a", "found 0 b")
        for path in ("", ".", "0.", ".0", "0..0", "00", "01", "0.00", "-0", "-1", "0.-1", "+0", "--", "-.0", "0.-", "0,0",
                     "0:0", "()", "(0)", "0.0.", "x", "0.x", "\u0660", "1_0", "0.0\t", "0;0", "1e0", "0x0"):
            for line in ("found {} a", "join {} 5 " + RIVAL_TEXT, "leave {}", "off {}", "sure {}"):
                self.refused(desk, NoLine, line.format(path))

    def test_numbers(self):
        desk = Desk(2)
        desk.say("tell")
        for number in ("", "-1", "-0", "00", "01", "+1", "1.0", "1_0", "x", "\u0661", "\u00b2", "0x1", "1e1", " 1", "None", "-"):
            self.refused(desk, NoLine, f"see {number}")
            self.refused(desk, NoLine, f"join - {number} {RIVAL_TEXT}")

    def test_shares(self):
        desk = Desk(2)
        for shares in ("", ":", "1", "1:", ":1", "2:4", "0:0", "0:2", "1:2:3", "1:0:0", "-1:2", "01:2", "+1:2", "1:-0", "1.5:2",
                       "1,2", "1;2", "1/2", "(1,2)", "1: 2", "none", "None", "\u0661:2", "1_0:1"):
            for word in ("tell", "pull", "right"):
                self.refused(desk, NoLine, f"{word} {shares}")
        three = Desk(3)
        for word in ("tell", "pull", "right"):
            self.refused(three, NoLine, word + " 1:2")

    def test_texts_of_doubters(self):
        desk = Desk(2)
        for text in (
            "", ";", RIVAL_TEXT + ";", ";" + RIVAL_TEXT, RIVAL_TEXT + " ", " " + RIVAL_TEXT, RIVAL_TEXT.replace(";", "; "),
            RIVAL_TEXT.replace(";", "\n"), RIVAL_TEXT.replace(";", ";;"), RIVAL_TEXT.replace(";", " "), RIVAL_TEXT[:-7],
            RIVAL_TEXT.replace("rival", "Rival"), RIVAL_TEXT.replace("rival 4", "rival 5"), "rival", "fig 0", "house 2",
            text_of(rival(3, (1, 2, 997))), "doubter a 0 0 0 0 0;stake fig 501;stake fig 0;behind;behind", show_doubter(RIVAL),
        ):
            self.refused(desk, NoLine, "join - 5 " + text)
            self.refused(desk, NoLine, "join 9 0 " + text)


class BesideAKeeperTest(DeskCase):
    """Lines of all words, and a keeper asked for the same."""

    def asked(self, keeper, word, values):
        """What the keeper tells, as the desk would write it."""
        if word == "found" or word == "join":
            return path_text(getattr(keeper, word)(*values))
        if word == "tell":
            shares = keeper.tell(*values)
            return "none" if shares is None else show_shares(shares)
        if word in ("leave", "see"):
            return str(getattr(keeper, word)(*values))
        if word == "untell":
            return "done" if keeper.untell() is None else "?"
        if word in ("off", "sure"):
            one = dict(ones(keeper.house())).get(values[0])
            if one is None:
                raise NoPlace(values[0])
            return str((off if word == "off" else sure)(one)).lower()
        told = {
            "back": lambda: keeper.back(), "motes": lambda: str(motes(keeper.house())),
            "moved": lambda: " ".join(str(number) for number in keeper.moved()), "days": lambda: str(len(keeper.rows())),
            "pull": lambda: " ".join(str(number) for number in pull(keeper.house(), values[0])),
            "right": lambda: "yes" if is_right(keeper.house(), values[0]) else "no",
            "show": lambda: show_house(keeper.house()).replace("\n", ";"),
        }
        return told[word]()

    def line_by(self, chance, many, keeper):
        """(line, word, values)."""
        word = chance.choice(("found", "join", "join", "leave", "tell", "tell", "tell", "see", "see", "see", "see", "untell",
                              "back", "motes", "moved", "pull", "right", "off", "sure", "days", "show"))
        places = [(), (0,), (1,), (0, 0), (0, 1), (2, 0)] + [path for path, one in ones(keeper.house())]
        path = chance.choice(places)
        shares = chance.choice(((1, 0, 0), (0, 1, 0), (1, 1, 0), (2, 3, 0), (1, 1, 1), (2, 3, 5)))
        shares = shares[:2] if many == 2 else shares
        if word == "found":
            name = chance.choice(("a", "inn", "", "A", "zzzzzzzz"))
            return f"found {path_text(path)} {name}", word, (path, name)
        if word == "join":
            told = (400, 600) if many == 2 else (100, 200, 700)
            doubter = chance.choice((rival(many, told), tent(many, 0, 300, 90, 1), lagging(many), after(many, 0, 1, -1),
                                     doubter_by(chance, many, 3)))
            weight = chance.choice((0, 1, 77, 10 ** 12, 10 ** 12 + 1))
            return f"join {path_text(path)} {weight} {text_of(doubter)}", word, (path, doubter, weight)
        if word in ("leave", "off", "sure"):
            return f"{word} {path_text(path)}", word, (path,)
        if word == "see":
            sign = chance.randrange(many + (chance.random() < 0.1))
            return f"see {sign}", word, (sign,)
        if word in ("pull", "right") or (word == "tell" and chance.random() < 0.3):
            return f"{word} {show_shares(shares)}", word, (shares,)
        return word, word, ()

    def test_led_alike(self):
        seen = set()
        for seed in range(25):
            chance = random.Random(seed)
            many = chance.choice((2, 3))
            desk, keeper = Desk(many), Keeper(many)
            for k in range(60):
                line, word, values = self.line_by(chance, many, keeper)
                error = told = None
                try:
                    told = self.asked(keeper, word, values)
                except (Refused, Missing, Halted) as caught:
                    error = caught
                if error is None:
                    self.assertEqual(desk.say(line), told, line)
                else:
                    with self.assertRaises(type(error)) as caught:
                        desk.say(line)
                    self.assertEqual(vars(caught.exception), vars(error))
                seen.add((word, type(error)))
                self.assertEqual(read_house(desk.say("show").replace(";", "\n")), keeper.house())
        for word in "found join leave tell see untell back motes moved pull right off sure days show".split():
            self.assertIn((word, type(None)), seen)
        for pair in (("found", NoName), ("found", Told), ("join", NoWeight), ("join", NoPlace), ("leave", NoPlace),
                     ("tell", NotRight), ("tell", Told), ("see", NotTold), ("see", NoSign), ("untell", NotTold),
                     ("back", Nothing), ("off", NoPlace)):
            self.assertIn(pair, seen)


if __name__ == "__main__":
    unittest.main()
