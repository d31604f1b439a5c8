"""Points 2, 3 (b) (d) (f), 21 and 22: Keeper."""

import copy
import random
import unittest

from nonegrowsrich.days import day
from nonegrowsrich.errors import (
    Crowded, Halted, Missing, NoDoubter, NoHouse, NoName, NoPlace, NoSign, NotRight, NotTold, NoWeight, Nothing, Refused,
    Told,
)
from nonegrowsrich.finding import find
from nonegrowsrich.houses import is_house, is_right, joined, left, motes, ones
from nonegrowsrich.keeper import Keeper
from nonegrowsrich.shelf import after, lagging, rival, tent
from tests.anything import wrong_things
from tests.crooked import B37, B264, full
from tests.house_maker import NONE, doubter_by, doubter_of, fig, figs, inner

RIVAL = rival(2, (400, 600))
LEAP = doubter_of(2, "leap", stakes=(("where", 0, 500, fig(1), fig(-1)), NONE))
NO_PATHS = [None, True, 0, "", "0", "-", [], {}, [0], (True,), (None,), ("0",), (0.0,), ((),), ((0,),), ([],), (-1,)]
NO_NAMES = ["", "a" * 9, "A", "a b", "a1", "\u00e9", "a\n", None, True, 0, ("a",), ["a"], {}, b"a", ()]
NO_WEIGHTS = [0, -1, 10 ** 12 + 1, 10 ** 50, None, True, "1", (1,), [1], {}, 1.0]


def state(keeper):
    """All that a keeper tells of itself."""
    told = None
    try:
        keeper.tell((0, 0))
    except Told:
        told = keeper.trial(lambda other: (other.see(0), other.rows()[-1][0])[1])
    except NotRight:
        pass
    return (keeper.house(), told, keeper.rows(), keeper.moved(), words_back(keeper), len(keeper), repr(keeper))


def words_back(keeper):
    """The words of all deeds that may be taken back, the last ahead."""
    def ask(other):
        words = []
        while True:
            try:
                words.append(other.back())
            except Nothing:
                return words
    return keeper.trial(ask)


class KeeperCase(unittest.TestCase):
    def refused(self, kind, call, *row, **names):
        """The error of a call that is refused by just that kind, the keeper as it was."""
        keeper = call.__self__
        before = copy.deepcopy(state(keeper))
        with self.assertRaises(kind) as caught:
            call(*row, **names)
        self.assertIs(type(caught.exception), kind)
        self.assertEqual(state(keeper), before)
        return caught.exception

    def keeper_of(self, many=2, *doubters):
        keeper = Keeper(many)
        for doubter in doubters:
            keeper.join((), doubter, 100)
        return keeper


class NewTest(KeeperCase):
    def test_an_empty_house(self):
        for many in (2, 3):
            keeper = Keeper(many=many)
            self.assertEqual((keeper.house(), keeper.rows(), keeper.moved(), len(keeper)), ((many, ()), (), (0, 0), 0))
            self.assertEqual(repr(keeper), f"Keeper({many}, 0 ones)")

    def test_of_anything_else(self):
        for many in [0, 1, 4, -2, True, False, None, "2", (2,), [2], {}, 2.0, 10 ** 30] + wrong_things():
            with self.assertRaises(NoHouse) as caught:
                Keeper(many)
            self.assertIs(type(caught.exception), NoHouse)
            self.assertIsInstance(caught.exception, Refused)

    def test_each_method_is_its_own(self):
        for name in ("house found join leave tell see untell rows moved back trial __eq__ __len__ __repr__ __init__").split():
            self.assertIn(name, vars(Keeper))


class FoundTest(KeeperCase):
    def test_paths_and_houses(self):
        keeper = Keeper(3)
        for path, name, place in (((), "a", (0,)), ((), "b", (1,)), ((1,), "c", (1, 0)), ((1, 0), "d", (1, 0, 0)),
                                  ((1,), "e", (1, 1))):
            self.assertEqual(keeper.found(path=path, name=name), place)
        self.assertEqual(keeper.house(), (3, (
            inner(name="a"), inner(inner(inner(name="d"), name="c"), inner(name="e"), name="b"))))
        self.assertEqual((len(keeper), keeper.moved()), (0, (0, 0)))

    def test_names_ahead_of_places(self):
        keeper = Keeper(2)
        for name in NO_NAMES + [thing for thing in wrong_things() if thing != "fig"]:
            self.refused(NoName, keeper.found, (), name)
            self.refused(NoName, keeper.found, (5,), name)
            self.refused(NoName, keeper.found, None, name)

    def test_places(self):
        keeper = self.keeper_of(2, RIVAL)
        for path in NO_PATHS + [(0,), (1,), (0, 0), (10 ** 30,), (-10 ** 30,)] + [
                thing for thing in wrong_things() if thing != ()]:
            error = self.refused(NoPlace, keeper.found, path, "a")
            self.assertIs(error.path, path)
            self.assertIsInstance(error, Missing)

    def test_crowded(self):
        keeper = Keeper(2)
        for k in range(12):
            keeper.found((), "h")
        error = self.refused(Crowded, keeper.found, (), "h")
        self.assertEqual(error.what, "houses")
        keeper = Keeper(2)
        for path in ((), (0,), (0, 0)):
            keeper.found(path, "h")
        self.assertEqual(self.refused(Crowded, keeper.found, (0, 0, 0), "h").what, "deep")


class JoinTest(KeeperCase):
    def test_a_one_as_it_joins(self):
        doubter = doubter_of(2, "bet", 3, (1, 2, 3, -4), figs(5, 6))
        keeper = Keeper(2)
        keeper.found((), "h")
        self.assertEqual(keeper.join(path=(0,), doubter=doubter, weight=7), (0, 0))
        self.assertEqual(keeper.join((), RIVAL, 10 ** 12), (1,))
        first = ("one", doubter, (1, 2, 3, -4), 7, 7, 0, 0, 0)
        second = ("one", RIVAL, (400, 600, 0, 0), 10 ** 12, 10 ** 12, 0, 0, 0)
        self.assertEqual(keeper.house(), (2, (inner(first), second)))
        self.assertEqual((len(keeper), keeper.moved()), (2, (10 ** 12 + 7, 0)))
        self.assertTrue(is_house(keeper.house()))

    def test_doubters_then_weights_ahead_of_places(self):
        keeper = Keeper(2)
        for doubter in wrong_things() + [rival(3, (1, 2, 997)), RIVAL[:4], list(RIVAL), RIVAL + ((),), (RIVAL,)]:
            self.refused(NoDoubter, keeper.join, (), doubter, 1)
            self.refused(NoDoubter, keeper.join, (9,), doubter, 0)
        for weight in NO_WEIGHTS + [thing for thing in wrong_things() if thing != 1 and thing != 7] + [True]:
            self.refused(NoWeight, keeper.join, (), RIVAL, weight)
            self.refused(NoWeight, keeper.join, None, RIVAL, weight)

    def test_weights_ahead_of_crowded(self):
        keeper = self.keeper_of(2, *[RIVAL] * 12)
        self.refused(NoWeight, keeper.join, (), RIVAL, 0)
        self.refused(NoDoubter, keeper.join, (), None, 0)
        self.refused(NoPlace, keeper.join, (0,), RIVAL, 1)
        self.assertEqual(self.refused(Crowded, keeper.join, (), RIVAL, 1).what, "ones")

    def test_places(self):
        keeper = self.keeper_of(2, RIVAL)
        for path in NO_PATHS + [(0,), (1,), (0, 0)]:
            self.assertIs(self.refused(NoPlace, keeper.join, path, RIVAL, 1).path, path)

    def test_borders(self):
        for many, stake in ((2, B264), (3, B37)):
            first, second = full(many)
            keeper = self.keeper_of(many, first[1], second[1])
            doubter = doubter_of(many, scale=4, stakes=(NONE,) * (many - 1) + (("least", ("share", 0), ("share", 1)),))
            self.assertEqual(self.refused(Crowded, keeper.join, (), doubter, 1).what, "borders")


class LeaveTest(KeeperCase):
    def test_motes_and_moved(self):
        keeper = Keeper(2)
        keeper.found((), "h")
        keeper.join((0,), RIVAL, 5)
        keeper.join((0,), RIVAL, 6)
        keeper.join((), RIVAL, 7)
        house = keeper.house()
        self.assertEqual(keeper.leave(path=(0, 0)), 5)
        self.assertEqual(keeper.house(), left(house, (0, 0))[0])
        self.assertEqual(keeper.moved(), (18, 5))
        self.assertEqual(keeper.leave((0,)), 6)
        self.assertEqual(keeper.leave((0,)), 7)
        self.assertEqual((keeper.house(), keeper.moved()), ((2, ()), (18, 18)))

    def test_places(self):
        keeper = self.keeper_of(2, RIVAL)
        for path in NO_PATHS + [(), (1,), (0, 0), (0, -1)] + wrong_things():
            self.assertIs(self.refused(NoPlace, keeper.leave, path).path, path)


class TellTest(KeeperCase):
    def test_found_shares(self):
        keeper = self.keeper_of(2, RIVAL)
        self.assertEqual(keeper.tell(), (2, 3))
        self.assertEqual(keeper.tell(shares=None) if keeper.untell() is None else 0, (2, 3))
        keeper = Keeper(3)
        self.assertEqual(keeper.tell(), find((3, ())))

    def test_handed_in_shares(self):
        keeper = Keeper(3)
        self.assertEqual(keeper.tell(shares=(1, 2, 3)), (1, 2, 3))
        keeper.see(0)
        self.assertEqual(keeper.rows(), (((1, 2, 3), 0),))

    def test_what_is_not_right(self):
        keeper = self.keeper_of(2, RIVAL)
        for shares in [(1, 1), (4, 6), (2, 3, 0), [2, 3], "2:3", (2, True), (2, 3.0), (3, 2), (0, 0), (-2, -3), False, 0]:
            error = self.refused(NotRight, keeper.tell, shares)
            self.assertEqual(error.number, 0)
            self.assertIsInstance(error, Halted)
        empty = Keeper(2)
        for shares in wrong_things():
            if shares is not None:
                self.refused(NotRight, empty.tell, shares)
                self.refused(NotRight, keeper.tell, shares)

    def test_none_are_right(self):
        keeper = self.keeper_of(2, LEAP)
        before = state(keeper)
        self.assertIsNone(keeper.tell())
        self.assertEqual(state(keeper), before)
        self.refused(NotTold, keeper.see, 0)
        self.refused(NotTold, keeper.untell)
        self.assertIsNone(keeper.tell())
        self.refused(NotRight, keeper.tell, (1, 1))
        keeper.leave((0,))
        self.assertIsNotNone(keeper.tell())

    def test_while_told(self):
        keeper = self.keeper_of(2, RIVAL)
        keeper.tell()
        for call, row in (
            (keeper.found, ((), "a")), (keeper.found, (None, None)), (keeper.join, ((), RIVAL, 1)),
            (keeper.join, (None, None, None)), (keeper.leave, ((0,),)), (keeper.leave, (None,)), (keeper.tell, ()),
            (keeper.tell, ((2, 3),)), (keeper.tell, ("no",)), (keeper.tell, (None,)),
        ):
            self.assertIsInstance(self.refused(Told, call, *row), Halted)
        self.assertIsNone(keeper.untell())
        self.assertEqual(keeper.found((), "a"), (1,))


class SeeTest(KeeperCase):
    def test_days(self):
        keeper = self.keeper_of(2, RIVAL, tent(2, 0, 300, 200, 1), after(2, 0, 1, -1), lagging(2))
        expected, rows = keeper.house(), ()
        for sign in (0, 1, 1, 0, 0, 1):
            shares = keeper.tell()
            self.assertTrue(is_right(expected, shares))
            expected = day(expected, shares, sign)
            rows += ((shares, sign),)
            self.assertEqual(keeper.see(sign=sign), motes(expected))
            self.assertEqual((keeper.house(), keeper.rows(), keeper.moved()), (expected, rows, (400, 0)))
            self.refused(NotTold, keeper.see, sign)

    def test_no_signs(self):
        for many in (2, 3):
            keeper = Keeper(many)
            for sign in [None, -1, 0, 1]:
                self.refused(NotTold, keeper.see, sign)
            keeper.tell()
            for sign in [-1, many, 10 ** 30, None, True, False, "0", (0,), [0], {}, 0.0]:
                self.assertIsInstance(self.refused(NoSign, keeper.see, sign), Refused)
            self.assertEqual(keeper.see(many - 1), 0)

    def test_untell(self):
        keeper = Keeper(2)
        self.assertIsInstance(self.refused(NotTold, keeper.untell), Halted)
        before = state(keeper)
        keeper.tell((1, 2))
        self.assertIsNone(keeper.untell())
        self.assertEqual(state(keeper), before)
        self.refused(NotTold, keeper.untell)


class BackTest(KeeperCase):
    def test_nothing(self):
        keeper = Keeper(2)
        self.assertIsInstance(self.refused(Nothing, keeper.back), Refused)
        keeper.tell((1, 3))
        self.refused(Nothing, keeper.back)
        self.assertEqual((keeper.see(0), keeper.rows()), (0, (((1, 3), 0),)))

    def test_each_deed_in_turn(self):
        keeper = Keeper(2)
        deeds = [
            ("found", lambda: keeper.found((), "a")), ("join", lambda: keeper.join((0,), RIVAL, 9)),
            ("join", lambda: keeper.join((), tent(2, 1, 300, 50, -1), 8)),
            ("see", lambda: (keeper.tell(), keeper.see(0))), ("leave", lambda: keeper.leave((1,))),
            ("see", lambda: (keeper.tell((2, 3)), keeper.see(1))), ("found", lambda: keeper.found((0,), "b")),
            ("leave", lambda: keeper.leave((0,))), ("see", lambda: (keeper.tell((1, 9)), keeper.see(1))),
        ]
        states = []
        for word, do in deeds:
            states.append(state(keeper))
            do()
        for (word, do), before in zip(reversed(deeds), reversed(states)):
            self.assertEqual(keeper.back(), word)
            self.assertEqual(state(keeper), before)
            self.refused(NotTold, keeper.untell)
        self.refused(Nothing, keeper.back)
        for word, do in deeds:
            do()
        self.assertEqual(words_back(keeper), [word for word, do in reversed(deeds)])

    def test_while_shares_are_told(self):
        keeper = self.keeper_of(2, RIVAL)
        keeper.tell()
        self.assertEqual(keeper.back(), "join")
        self.assertEqual((keeper.house(), keeper.moved(), keeper.rows()), ((2, ()), (0, 0), ()))
        self.refused(NotTold, keeper.see, 0)
        keeper.tell((1, 9))
        keeper.see(1)
        keeper.tell((1, 8))
        self.assertEqual(keeper.back(), "see")
        self.assertEqual(keeper.rows(), ())
        self.refused(NotTold, keeper.see, 0)
        self.refused(Nothing, keeper.back)

    def test_tell_and_untell_are_no_deeds(self):
        keeper = self.keeper_of(2, RIVAL)
        keeper.tell()
        keeper.untell()
        self.assertEqual(keeper.back(), "join")
        self.refused(Nothing, keeper.back)

    def test_refused_deeds_are_none(self):
        keeper = Keeper(2)
        keeper.found((), "a")
        for call, row in ((keeper.found, ((5,), "a")), (keeper.join, ((), None, 1)), (keeper.leave, ((4,),))):
            with self.assertRaises((Refused, Missing)):
                call(*row)
        self.assertEqual(words_back(keeper), ["found"])


class TrialTest(KeeperCase):
    def test_told_and_as_ahead(self):
        keeper = self.keeper_of(2, RIVAL)
        keeper.tell()
        keeper.see(0)
        before = state(keeper)

        def ask(other):
            self.assertIs(other, keeper)
            other.found((), "x")
            other.leave((0,))
            other.tell((1, 5))
            other.see(1)
            other.tell((1, 7))
            return (other.house(), other.rows(), other.moved())
        self.assertEqual(keeper.trial(ask=ask), ((2, (inner(name="x"),)), keeper.rows() + (((1, 5), 1),), (100, 100)))
        self.assertEqual(state(keeper), before)

    def test_shares_told_ahead_stay(self):
        keeper = self.keeper_of(2, RIVAL)
        keeper.tell()
        before = state(keeper)
        self.assertEqual(keeper.trial(lambda other: (other.untell(), other.back(), len(other))), (None, "join", 0))
        self.assertEqual(state(keeper), before)
        self.refused(Told, keeper.tell)
        self.assertEqual(keeper.see(0), 100)

    def test_raising(self):
        keeper = self.keeper_of(2, RIVAL)
        before = state(keeper)

        class Odd(BaseException):
            pass

        def ask(other):
            other.leave((0,))
            other.tell((1, 5))
            raise Odd("x")
        with self.assertRaises(Odd):
            keeper.trial(ask)
        self.assertEqual(state(keeper), before)
        error = self.refused(NoPlace, keeper.trial, lambda other: (other.back(), other.leave((0,))))
        self.assertEqual(error.path, (0,))

    def test_within_trials(self):
        keeper = self.keeper_of(2, RIVAL)
        before = state(keeper)

        def inner_ask(other):
            other.back()
            return len(other)

        def ask(other):
            other.join((), RIVAL, 1)
            here = state(other)
            told = [other.trial(inner_ask), len(other)]
            with self.assertRaises(Nothing):
                other.trial(lambda third: [third.back() for k in range(9)])
            self.assertEqual(state(other), here)
            return told
        self.assertEqual(keeper.trial(ask), [1, 2])
        self.assertEqual(state(keeper), before)


class AlikeTest(KeeperCase):
    def test_that_came_so_otherwise(self):
        first, second = Keeper(2), Keeper(2)
        self.assertTrue(first == second)
        self.assertFalse(first != second)
        first.join((), RIVAL, 5)
        self.assertFalse(first == second)
        second.found((), "a")
        second.leave((0,))
        second.join((), RIVAL, 5)
        self.assertTrue(first == second)
        first.tell()
        self.assertFalse(first == second)
        second.tell((2, 3))
        self.assertTrue(first == second)
        first.see(0)
        self.assertFalse(first == second)
        second.see(0)
        self.assertTrue(first == second)
        first.back()
        self.assertFalse(first == second)

    def test_each_of_the_four_counts(self):
        for many, deeds in (
            (3, lambda keeper: None),
            (2, lambda keeper: keeper.found((), "a")),
            (2, lambda keeper: keeper.tell((1, 1))),
            (2, lambda keeper: (keeper.tell((1, 1)), keeper.see(0))),
            (2, lambda keeper: (keeper.join((), RIVAL, 1), keeper.leave((0,)))),
        ):
            other = Keeper(many)
            deeds(other)
            self.assertFalse(Keeper(2) == other)
            self.assertTrue(Keeper(2) != other)
            again = Keeper(many)
            deeds(again)
            self.assertTrue(again == other)

    def test_with_other_things(self):
        keeper = Keeper(2)
        for thing in [(2, ()), [], None, True, "Keeper(2, 0 ones)", keeper.house(), Keeper] + wrong_things():
            self.assertIs(keeper == thing, False)
            self.assertIs(keeper != thing, True)

    def test_len_and_repr(self):
        keeper = Keeper(2)
        keeper.found((), "h")
        self.assertEqual((len(keeper), repr(keeper)), (0, "Keeper(2, 0 ones)"))
        keeper.join((0,), RIVAL, 1)
        self.assertEqual((len(keeper), repr(keeper)), (1, "Keeper(2, 1 ones)"))
        keeper.join((), RIVAL, 1)
        keeper.join((), RIVAL, 1)
        self.assertEqual((len(keeper), repr(keeper)), (3, "Keeper(2, 3 ones)"))
        self.assertEqual(repr(self.keeper_of(3, rival(3, (1, 2, 997)))), "Keeper(3, 1 ones)")


class ManyDeedsTest(KeeperCase):
    """A keeper led by chance beside the functions, and all taken back one by one."""

    def step(self, chance, keeper, mirror):
        """A deed of the keeper, done to the mirror by the functions; its word, None where it was refused."""
        many = mirror["house"][0]
        word = chance.choice(("found", "join", "join", "leave", "see", "see", "see"))
        places = [()] + [path for path, one in ones(mirror["house"])] + [(chance.randrange(3),), (0, 0)]
        path = chance.choice(places)
        try:
            if word == "found":
                self.assertEqual(keeper.found(path, "h")[:-1], path)
                mirror["house"] = joined(mirror["house"], path, ("house", "h", ()))
            elif word == "join":
                doubter = chance.choice((rival(many, (1000,) + (0,) * (many - 1)), tent(many, 1, 400, 99, -1), lagging(many),
                                         after(many, 0, 1, 1), doubter_by(chance, many, 3)))
                weight = chance.choice((1, 50, 10 ** 12))
                self.assertEqual(keeper.join(path, doubter, weight)[:-1], path)
                one = ("one", doubter, doubter[2], weight, weight, 0, 0, 0)
                mirror["house"] = joined(mirror["house"], path, one)
                mirror["moved"] = (mirror["moved"][0] + weight, mirror["moved"][1])
            elif word == "leave":
                went = keeper.leave(path)
                mirror["house"], told = left(mirror["house"], path)
                self.assertEqual(went, told)
                mirror["moved"] = (mirror["moved"][0], mirror["moved"][1] + went)
            else:
                shares, sign = keeper.tell(), chance.randrange(many)
                self.assertEqual(shares, find(mirror["house"]))
                if shares is None:
                    return None
                mirror["house"] = day(mirror["house"], shares, sign)
                self.assertEqual(keeper.see(sign), motes(mirror["house"]))
                mirror["rows"] = mirror["rows"] + ((shares, sign),)
        except (NoPlace, Crowded):
            return None
        return word

    def test_led_by_chance(self):
        for seed in range(12):
            chance = random.Random(seed)
            keeper = Keeper(chance.choice((2, 3)))
            mirror = {"house": keeper.house(), "moved": (0, 0), "rows": ()}
            words, states = [], [state(keeper)]
            for k in range(25):
                word = self.step(chance, keeper, mirror)
                if word:
                    words.append(word)
                    states.append(state(keeper))
                self.assertEqual((keeper.house(), keeper.moved(), keeper.rows()),
                                 (mirror["house"], mirror["moved"], mirror["rows"]))
                self.assertLessEqual(motes(keeper.house()), keeper.moved()[0] - keeper.moved()[1])
            self.assertEqual(words_back(keeper), words[::-1])
            while words:
                self.assertEqual(state(keeper), states.pop())
                self.assertEqual(keeper.back(), words.pop())
            self.assertEqual(state(keeper), states.pop())


if __name__ == "__main__":
    unittest.main()
