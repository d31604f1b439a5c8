"""Points 2, 3 (b) (e), 16 and 17: day, days, told_days."""

import copy
import random
import unittest
from fractions import Fraction
from math import ceil, floor

from nonegrowsrich.days import day, days, told_days
from nonegrowsrich.doubters import behind, is_still
from nonegrowsrich.errors import Halted, NotRight
from nonegrowsrich.finding import find
from nonegrowsrich.houses import is_house, is_right, motes, ones
from tests.house_maker import (
    NONE, ZERO, doubter_of, fig, figs, house_by, inner, kinky_house_by, one_of, rival_of, stakes_house,
    stepping_house_by,
)
from tests.slow import slow_behind, slow_worth
from tests.slow_find import ones_of

X, Y = ("share", 0), ("share", 1)


def slow_one_day(one, shares, sign):
    """The one behind the day, by fractions."""
    word, doubter, registers, weight, held, owed, count, got = one
    point = [Fraction(number, sum(shares)) for number in shares]
    stakes = [slow_worth(stake, registers, point) / 1000 / 2 ** doubter[1] for stake in doubter[3]]
    won = stakes[sign] - sum(a * b for a, b in zip(point, stakes))
    return (
        word, doubter, slow_behind(doubter[4][sign], registers, shares), weight, floor(held * (1 + won)),
        ceil(owed * (1 + won)) + 1, count + (len(set(stakes)) > 1), floor(got + 10 ** 9 * won),
    )


def slow_members_day(members, shares, sign):
    return tuple(
        slow_one_day(member, shares, sign) if member[0] == "one"
        else (member[0], member[1], slow_members_day(member[2], shares, sign))
        for member in members
    )


class DayCase(unittest.TestCase):
    def one_behind(self, one, shares, sign):
        """The one behind a day of it alone."""
        many = len(shares)
        told, members = day((many, (one,)), shares, sign)
        self.assertEqual((told, len(members)), (many, 1))
        return members[0]


class DayTest(DayCase):
    def test_reckoned_by_hand(self):
        # Right at 1:3 alone: there both stakes are 0 and all stays, but for what is owed.
        stakes = (("less", fig(250), X), NONE)
        one = one_of(doubter_of(2, stakes=stakes), 10, ZERO, 7, 5, 3, -4)
        self.assertEqual(self.one_behind(one, (1, 3), 0), ("one", one[1], ZERO, 7, 10, 6, 3, -4))
        self.assertEqual(self.one_behind(one, (1, 3), 1), ("one", one[1], ZERO, 7, 10, 6, 3, -4))

    def balanced(self, scale, held, owed, figure, got=0, many=2):
        """A house of two ones, the first staking figure on sign 0, and its opposite with as many motes."""
        rest = (NONE,) * (many - 1)
        first = doubter_of(many, scale=scale, stakes=(fig(figure),) + rest)
        second = doubter_of(many, scale=scale, stakes=(fig(-figure),) + rest)
        return (many, (one_of(first, held, owed=owed, got=got), one_of(second, held)))

    def test_motes_down_and_owed_up_and_one_more(self):
        # At 1:2 a stake of 300 thousandths on sign 0 wins 200 thousandths where it comes, and loses 100 where not.
        for sign, told in (
            (0, (("one", 13, 9, 2 * 10 ** 8), ("one", 8, 1, -2 * 10 ** 8))),
            (1, (("one", 9, 7, -10 ** 8), ("one", 12, 1, 10 ** 8))),
        ):
            many, members = day(self.balanced(0, 11, 6, 300), (1, 2), sign)
            for one, (word, held, owed, got) in zip(members, told):
                self.assertEqual((one[0], one[4], one[5], one[6], one[7]), (word, held, owed, 1, got))

    def test_whole_numbers_are_not_rounded_on(self):
        # 10 by 6 / 5 is 12 and by 9 / 10 is 9: what is owed is 1 more.
        for sign, held, owed in ((0, 12, 13), (1, 9, 10)):
            many, members = day(self.balanced(0, 10, 10, 300), (1, 2), sign)
            self.assertEqual(members[0][4:6], (held, owed))

    def test_what_is_owed_is_1_at_first(self):
        house = (2, (one_of(doubter_of(2), 5),))
        for number in range(1, 4):
            house = day(house, (1, 1), 0)
            self.assertEqual(house[1][0][4:8], (5, number, 0, 0))

    def test_scales(self):
        # The same stake, finer by half each scale: at 1:1 half of it is won.
        for scale in range(5):
            many, members = day(self.balanced(scale, 32000, 32000, 500, 7), (1, 1), 0)
            self.assertEqual(members[0][4:], (32000 + (8000 >> scale), 32001 + (8000 >> scale), 1,
                                              7 + (25 * 10 ** 7 >> scale)))
            self.assertEqual(members[1][4:], (32000 - (8000 >> scale), 1, 1, -(25 * 10 ** 7 >> scale)))

    def test_got_is_rounded_down(self):
        # 1 thousandth at 1:2: two thirds and one third of a thousandth of 10 ** 9 are no whole numbers.
        for sign, first, second in ((0, 666666, -666667), (1, -333334, 333333)):
            many, members = day(self.balanced(0, 3, 0, 1, 5), (1, 2), sign)
            self.assertEqual((members[0][7], members[1][7]), (5 + first, second))
        many, members = day(self.balanced(0, 3, 0, 1, -10 ** 30), (1, 2), 1)
        self.assertEqual(members[0][7], -10 ** 30 - 333334)

    def test_all_is_lost(self):
        # Half a mote for each on sign 0 and half against it: all that a one holds may go, and double come.
        stakes = (fig(500), fig(-500))
        house = (2, (one_of(doubter_of(2, stakes=stakes), 7, owed=3), one_of(doubter_of(2, stakes=stakes[::-1]), 7)))
        many, members = day(house, (0, 1), 0)
        self.assertEqual([one[4:7] for one in members], [(14, 7, 1), (0, 1, 1)])
        many, members = day(house, (0, 1), 1)
        self.assertEqual([one[4:7] for one in members], [(7, 4, 1), (7, 1, 1)])

    def test_days_count_where_not_all_are_alike(self):
        for stakes, count in ((figs(9, 9, 9), 5), (figs(9, 9, 8), 6), (figs(0, 0, 0), 5), (figs(-1, 0, 0), 6)):
            one = one_of(doubter_of(3, stakes=stakes), 0, days=5)
            for sign in range(3):
                self.assertEqual(self.one_behind(one, (1, 1, 1), sign)[6], count)

    def test_days_count_by_worths_alone(self):
        # Nothing comes of it where sign 0 has all shares, and yet the stakes are unlike.
        one = one_of(doubter_of(2, stakes=figs(5, 4)), 8)
        self.assertEqual(self.one_behind(one, (1, 0), 0)[4:], (8, 1, 1, 0))

    def test_ones_without_motes_go_on(self):
        one = one_of(doubter_of(2, stakes=figs(300, 0)), 0, owed=4)
        self.assertEqual(self.one_behind(one, (1, 2), 0)[4:], (0, 6, 1, 2 * 10 ** 8))

    def test_registers_by_the_signs_deeds(self):
        behinds = ((("put", 0, 5), ("told", 1, 1)), (("add", 0, -7), ("copy", 2, 0)), (("told", 3, 2),))
        one = one_of(doubter_of(3, behinds=behinds), 4, (1, 2, 3, 4))
        for sign, registers in ((0, (5, 333, 3, 4)), (1, (-6, 2, -6, 4)), (2, (1, 2, 3, 500))):
            told = self.one_behind(one, (1, 2, 3), sign)
            self.assertEqual(told[2], registers)
            self.assertEqual(told[2], behind(one[1], one[2], (1, 2, 3), sign))
            self.assertEqual((told[1], told[3]), (one[1], one[3]))

    def test_stakes_are_by_the_registers_ahead(self):
        doubter = doubter_of(2, stakes=(("when", 0, 1, fig(0), fig(100)), NONE), behinds=((("put", 0, 1),), ()))
        house = (2, (one_of(doubter, 0, owed=1000),))
        house = day(house, (1, 1), 0)
        self.assertEqual(house[1][0][2:], ((1, 0, 0, 0), 1, 0, 1001, 0, 0))
        house = day(house, (1, 1), 1)
        self.assertEqual(house[1][0][2:], ((1, 0, 0, 0), 1, 0, 952, 1, -5 * 10 ** 7))

    def test_houses_in_houses(self):
        many, (first, second) = self.balanced(1, 11, 6, 300)
        flat = day((2, (first, second)), (1, 2), 0)[1]
        house = (2, (inner(inner(first, name="b"), inner(), name="a"), second))
        self.assertEqual(day(house, (1, 2), 0),
                         (2, (inner(inner(flat[0], name="b"), inner(), name="a"), flat[1])))
        self.assertEqual(day((3, ()), (1, 2, 3), 1), (3, ()))
        self.assertEqual(day((3, (inner(),)), (1, 2, 3), 1), (3, (inner(),)))

    def test_not_right(self):
        house = (2, (rival_of(2, (400, 600)),))
        for shares in ((1, 1), (0, 1), (1, 0), (399, 601), (40001, 59999)):
            for sign in (0, 1):
                with self.assertRaises(NotRight) as caught:
                    day(house, shares, sign)
                self.assertIs(type(caught.exception), NotRight)
                self.assertEqual(NotRight.__bases__, (Halted,))
                self.assertEqual(caught.exception.number, 0)
                self.assertNotIsInstance(caught.exception.number, bool)
        self.assertEqual(motes(day(house, (2, 3), 0)), 1)

    def test_by_names_nothing_changed_and_again_the_same(self):
        house = self.balanced(2, 9, 8, 400)
        before = copy.deepcopy(house)
        self.assertEqual(day(house=house, shares=(1, 2), sign=1), day(before, (1, 2), 1))
        self.assertEqual(house, before)

    def test_by_the_slow_reckoner(self):
        seen = 0
        for seed in range(150):
            chance = random.Random(seed)
            house = house_by(chance, chance.choice((2, 3)))
            shares = find(house)
            if shares is None:
                continue
            seen += bool(ones(house))
            for sign in range(house[0]):
                told = day(house, shares, sign)
                self.assertEqual(told, (house[0], slow_members_day(house[1], shares, sign)))
                self.assertTrue(is_house(told))
                self.assertLessEqual(motes(told), motes(house))
        self.assertGreater(seen, 60)


class DaysTest(DayCase):
    def lagging_house(self):
        doubter = doubter_of(2, "lag", 2, (250, 0, 0, 0), (("less", ("reg", 0), X), NONE), (
            (("put", 0, 500),), (("put", 0, 0),)))
        return (2, (one_of(doubter, 100, (250, 0, 0, 0), 100), one_of(doubter_of(2, stakes=figs(0, 0)), 3)))

    def test_no_rows(self):
        house = self.lagging_house()
        self.assertEqual(days(house, ()), house)
        self.assertEqual(days(house=(3, ()), rows=()), (3, ()))

    def test_one_behind_the_other(self):
        house = self.lagging_house()
        rows = (((1, 3), 0), ((1, 1), 1), ((0, 1), 1), ((0, 1), 0), ((1, 1), 0))
        expected = house
        for number, (shares, sign) in enumerate(rows):
            expected = day(expected, shares, sign)
            self.assertEqual(days(house, rows[:number + 1]), expected)

    def test_the_first_that_is_not_right(self):
        house = self.lagging_house()
        rows = (((1, 3), 0), ((1, 1), 1), ((0, 1), 1), ((0, 1), 0), ((1, 1), 0))
        for number in range(5):
            for more in ((), ((9, 8),)):
                spoilt = list(rows)
                spoilt[number] = ((7, 9), 1)
                if more:
                    spoilt[-1] = ((8, 9), 0)
                with self.assertRaises(NotRight) as caught:
                    days(house, tuple(spoilt))
                self.assertEqual(caught.exception.number, number)
                self.assertIs(type(caught.exception.number), int)

    def test_nothing_is_changed(self):
        house = self.lagging_house()
        rows = (((1, 3), 0), ((1, 1), 1))
        before = copy.deepcopy((house, rows))
        self.assertEqual(days(house=house, rows=rows), days(house, rows))
        self.assertEqual((house, rows), before)


class ToldDaysTest(DayCase):
    def test_no_signs(self):
        house = (2, (rival_of(2, (400, 600)),))
        self.assertEqual(told_days(house, ()), ((), house))

    def test_as_find_and_day(self):
        for seed in range(30):
            chance = random.Random(seed)
            many = chance.choice((2, 3))
            house = kinky_house_by(chance, many, 8, chance.choice((0, 0.2)))
            signs = tuple(chance.randrange(many) for k in range(6))
            tellings, behind_all = told_days(house, signs)
            self.assertIsInstance(tellings, tuple)
            expected = house
            for number, shares in enumerate(tellings):
                self.assertEqual(shares, find(expected))
                self.assertTrue(is_right(expected, shares))
                expected = day(expected, shares, signs[number])
            self.assertEqual(behind_all, expected)
            if len(tellings) < len(signs):
                self.assertIsNone(find(expected))
            self.assertEqual(days(house, tuple(zip(tellings, signs))), behind_all)
            self.assertEqual(told_days(house=house, signs=signs), (tellings, behind_all))

    def test_up_to_where_none_are(self):
        # From the third day on register 0 is 2, and the stake jumps.
        leap = ("when", 0, 2, fig(0), ("where", 0, 500, fig(1), fig(-1)))
        doubter = doubter_of(2, stakes=(leap, NONE), behinds=((("add", 0, 1),), (("add", 0, 1),)))
        house = (2, (one_of(doubter, 9), rival_of(2, (300, 700), 0)))
        tellings, told = told_days(house, (0, 1, 0, 1))
        self.assertEqual(len(tellings), 2)
        self.assertEqual(told[1][0][2], (2, 0, 0, 0))
        self.assertEqual(told[1][0][5], 2)
        self.assertEqual(told_days(told, (1, 1)), ((), told))
        self.assertEqual(told_days(stakes_house(("where", 0, 9, fig(1), fig(-1)), NONE), (0,))[0], ())

    def test_motes_never_rise(self):
        for seed in range(25):
            chance = random.Random(seed)
            many = chance.choice((2, 3))
            house = stepping_house_by(chance, many, 3) if seed % 2 else kinky_house_by(chance, many, 9, 0)
            ahead = motes(house)
            for k in range(8):
                tellings, house = told_days(house, (chance.randrange(many),))
                self.assertLessEqual(motes(house), ahead)
                ahead = motes(house)
                for one in ones_of(house[1]):
                    self.assertGreaterEqual(min(one[4:7]), 0)

    def test_still_ones_are_told_on_and_on(self):
        for many in (2, 3):
            house = kinky_house_by(random.Random(many), many, 20, 0)
            self.assertTrue(all(is_still(one[1], one[2]) for one in ones_of(house[1])))
            tellings, told = told_days(house, (0, 1) * 10)
            self.assertEqual(len(tellings), 20)


if __name__ == "__main__":
    unittest.main()
