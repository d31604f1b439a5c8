"""Points 2, 3 (d) and 18: off, most_off, sure."""

import random
import unittest
from fractions import Fraction
from math import floor, isqrt, log

from nonegrowsrich.chances import most_off, off, sure
from nonegrowsrich.days import day
from nonegrowsrich.doubters import bound, stakes_at
from nonegrowsrich.finding import find
from nonegrowsrich.houses import ones
from tests.house_maker import NONE, doubter_of, fig, figs, kinky_house_by, one_of, stepping_house_by


def within(far, days, weight, held, more):
    left = (500 + far) ** (days + more) * (500 - far) ** (days - more) * weight ** 2
    return left <= 500 ** (2 * days) * held ** 2


def slow_most_off(far, days, weight, held):
    """The greatest of all, gone through one by one."""
    found = [more for more in range(-days, days + 1) if within(far, days, weight, held, more)]
    return found[-1] if found else None


class OffTest(unittest.TestCase):
    def test_reckoned_by_hand(self):
        for figure, got, expected in (
            (500, 0, 0), (500, 10 ** 9, 1), (500, 10 ** 9 - 1, 0), (500, -1, -1), (500, -10 ** 9, -1),
            (500, -10 ** 9 - 1, -2), (250, 10 ** 9, 2), (100, 10 ** 9, 5), (1, 10 ** 9, 500), (1, -1, -1),
            (300, 3 * 10 ** 9, 5), (300, 3 * 10 ** 9 - 1, 4), (0, 10 ** 9, 500), (7, 10 ** 40, 500 * 10 ** 31 // 7),
        ):
            for sign in (1, -1):
                one = one_of(doubter_of(2, stakes=(NONE, fig(sign * figure))), got=got)
                self.assertEqual(off(one), expected)

    def test_by_the_bound(self):
        for scale in range(5):
            for got in (-7 * 10 ** 8, 0, 123456789, 10 ** 12):
                doubter = doubter_of(3, scale=scale, stakes=figs(3, -499, 0))
                expected = floor(Fraction(500 * got, 10 ** 9 * bound(doubter)))
                self.assertEqual(off(one=one_of(doubter, got=got)), expected)


class MostOffTest(unittest.TestCase):
    def test_going_through_all(self):
        for far in (1, 2, 125, 250, 300, 499, 500):
            for days in (0, 1, 2, 3, 10, 33):
                for weight in (1, 2, 1000, 10 ** 12):
                    for held in (0, 1, 2, 3, 999, 1000, 1001, 10 ** 12, 10 ** 20):
                        told = most_off(far, days, weight, held)
                        self.assertEqual(told, slow_most_off(far, days, weight, held), (far, days, weight, held))

    def test_by_chance(self):
        chance = random.Random(18)
        for k in range(400):
            row = (chance.randint(1, 500), chance.randint(0, 60), chance.randint(1, 10 ** chance.randint(1, 13)),
                   chance.randint(0, 10 ** chance.randint(1, 30)))
            self.assertEqual(most_off(*row), slow_most_off(*row), row)

    def test_no_days(self):
        for weight, held, expected in ((1, 0, None), (1, 1, 0), (2, 1, None), (10, 10, 0), (3, 10 ** 30, 0), (8, 9, 0)):
            for far in (1, 125, 500):
                self.assertEqual(most_off(far, 0, weight, held), expected)

    def test_nothing_held(self):
        for days in (1, 2, 9):
            self.assertIsNone(most_off(499, days, 1, 0))
            # With far 500 all but the last is 0, and 0 is not above 0.
            self.assertEqual(most_off(500, days, 1, 0), days - 1)

    def test_far_500(self):
        # Only by all days is it above 0: then it is 1000 ** (2 days).
        for days in (1, 5):
            self.assertEqual(most_off(500, days, 1, 2 ** days), days)
            self.assertEqual(most_off(500, days, 1, 2 ** days - 1), days - 1)
            self.assertEqual(most_off(500, days, 3, 3 * 2 ** days), days)
            self.assertEqual(most_off(500, days, 3, 3 * 2 ** days - 1), days - 1)

    def test_far_500_of_long_rows(self):
        for days in (40, 60, 200):
            for weight, held in ((10 ** 12, 1), (10 ** 12, 0), (1, 1), (1, 10 ** 9), (10 ** 400, 3)):
                self.assertEqual(most_off(500, days, weight, held), slow_most_off(500, days, weight, held))

    def test_just_alike_is_taken(self):
        # 800 ** (d + u) times 200 ** (d - u) is a square: there both sides may be just alike, and by 1 not.
        for days in range(0, 40, 3):
            for more in range(-days, days + 1):
                whole = 800 ** (days + more) * 200 ** (days - more)
                held = isqrt(whole)
                if held * held == whole:
                    self.assertEqual(most_off(300, days, 500 ** days, held), more)
                    self.assertLess(most_off(300, days, 500 ** days + 1, held) or -10 ** 9, more)

    def test_none(self):
        self.assertIsNone(most_off(1, 3, 10, 9))
        self.assertEqual(most_off(100, 3, 10, 9), slow_most_off(100, 3, 10, 9))

    def test_many_days(self):
        # By the chord u is log(held / weight) and days times the log of what two such days leave, by the log's slope.
        for far, days, weight, held in ((125, 10 ** 5, 1000, 999), (1, 10 ** 6, 5, 10 ** 9), (499, 10 ** 4, 7, 7)):
            told = most_off(far, days, weight, held)
            ahead, behind = log((500 + far) / 500), log((500 - far) / 500)
            guess = (2 * log(held / weight) - days * (ahead + behind)) / (ahead - behind)
            self.assertAlmostEqual(told, guess, delta=1.01)
        self.assertTrue(within(499, 10 ** 4, 7, 7, most_off(499, 10 ** 4, 7, 7)))
        self.assertFalse(within(499, 10 ** 4, 7, 7, most_off(499, 10 ** 4, 7, 7) + 1))

    def test_by_names(self):
        self.assertEqual(most_off(far=125, days=7, weight=3, held=5), slow_most_off(125, 7, 3, 5))


class SureTest(unittest.TestCase):
    def test_motes_and_owed_together(self):
        for held, owed in ((5, 0), (0, 5), (2, 3), (0, 0), (9, 10 ** 6)):
            for count in (0, 1, 9, 30):
                doubter = doubter_of(2, scale=1, stakes=figs(0, -301))
                one = one_of(doubter, held, weight=4, owed=owed, days=count, got=10 ** 20)
                self.assertEqual(sure(one), slow_most_off(151, count, 4, held + owed))
                self.assertEqual(sure(one=one), most_off(bound(doubter), count, 4, held + owed))

    def test_off_is_at_most_sure(self):
        """Of ones that joined as the keeper's do: motes as its weight, nothing owed; at any right shares."""
        compared = 0
        for seed in range(30):
            chance = random.Random(seed)
            many = chance.choice((2, 3))
            house = kinky_house_by(chance, many, 6, 0) if seed % 3 else stepping_house_by(chance, many, 2)
            members = tuple(one[:3] + (max(1, one[4]), max(1, one[4]), 0, 0, 0) for path, one in ones(house))
            house, products = (many, members), [Fraction(1)] * len(members)
            for k in range(12):
                shares = find(house)
                if shares is None:
                    break
                sign = chance.randrange(many)
                factors = [factor(one, shares, sign) for path, one in ones(house)]
                products = [a * b for a, b in zip(products, factors)]
                house = day(house, shares, sign)
                for (path, one), product in zip(ones(house), products):
                    self.assertLessEqual(one[3] * product, one[4] + one[5])
                    self.assertLessEqual(off(one), sure(one))
                    compared += 1
        self.assertGreater(compared, 500)


def factor(one, shares, sign):
    """What the one's motes are multiplied by, ahead of rounding."""
    stakes = [Fraction(stake, 1000 * 2 ** one[1][1] * sum(shares)) for stake in stakes_at(one[1], one[2], shares)]
    return 1 + stakes[sign] - sum(stake * Fraction(number, sum(shares)) for stake, number in zip(stakes, shares))


if __name__ == "__main__":
    unittest.main()
