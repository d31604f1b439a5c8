"""Points 2, 19 and 20: tent, rival, after, lagging, misses, rival_misses."""

import random
import unittest
from fractions import Fraction

from nonegrowsrich.chances import sure
from nonegrowsrich.days import day
from nonegrowsrich.doubters import behind, bound, is_doubter, is_still, stakes_at
from nonegrowsrich.expressions import borders
from nonegrowsrich.finding import find
from nonegrowsrich.shares import lowest, mills
from nonegrowsrich.shelf import after, lagging, misses, rival, rival_misses, tent
from tests.expression_maker import registers_by, shares_by
from tests.house_maker import ZERO, kinky_house_by, one_of


def all_borders(doubter):
    return sum(borders(stake) for stake in doubter[3])


def tent_stake(point, sign, centre, wide, side):
    return side * max(Fraction(0), wide - abs(1000 * point[sign] - centre))


class ShelfCase(unittest.TestCase):
    def stands(self, doubter, many, name, scale, begins, bounded):
        self.assertIs(is_doubter(doubter, many), True)
        self.assertEqual(doubter[:3], (name, scale, begins))
        self.assertEqual(bound(doubter), bounded)

    def stakes(self, doubter, registers, shares, expected):
        told = stakes_at(doubter, registers, shares)
        self.assertEqual([Fraction(stake, sum(shares)) for stake in told], expected)


class TentTest(ShelfCase):
    def test_at_the_centre_and_the_ends_within_and_beyond(self):
        for shares, expected in (
            ((300, 700), 100), ((299, 701), 99), ((301, 699), 99), ((200, 800), 0), ((400, 600), 0), ((201, 799), 1),
            ((399, 601), 1), ((199, 801), 0), ((401, 599), 0), ((0, 1000), 0), ((1000, 0), 0), ((250, 750), 50),
            ((2505, 7495), Fraction(101, 2)),
        ):
            for side in (1, -1):
                self.stakes(tent(2, 0, 300, 100, side), ZERO, lowest(shares), [side * expected, 0])
                self.stakes(tent(2, 1, 300, 100, side), ZERO, lowest(shares[::-1]), [0, side * expected])

    def test_all_ends(self):
        for many in (2, 3):
            for sign in range(many):
                for centre in (0, 1, 500, 999, 1000):
                    for wide in (1, 2, 499, 500):
                        for side in (1, -1):
                            doubter = tent(many, sign, centre, wide, side)
                            self.stands(doubter, many, "tent", 0, ZERO, wide)
                            self.assertLessEqual(all_borders(doubter), 6)
                            self.assertEqual(doubter[4], ((),) * many)

    def test_by_fractions_at_any_registers(self):
        chance = random.Random(19)
        for k in range(300):
            many = chance.choice((2, 3))
            sign, side = chance.randrange(many), chance.choice((1, -1))
            centre, wide = chance.choice((0, 1000, chance.randint(0, 1000))), chance.choice((1, 500, chance.randint(1, 500)))
            doubter = tent(many, sign, centre, wide, side)
            shares, registers = shares_by(chance, many), registers_by(chance)
            point = [Fraction(number, sum(shares)) for number in shares]
            expected = [Fraction(0)] * many
            expected[sign] = tent_stake(point, sign, centre, wide, side)
            self.stakes(doubter, registers, shares, expected)
            self.assertIs(is_still(doubter, registers), True)
            self.assertEqual(behind(doubter, registers, shares, sign), registers)

    def test_by_names(self):
        self.assertEqual(tent(many=3, sign=2, centre=5, wide=7, side=-1), tent(3, 2, 5, 7, -1))


class RivalTest(ShelfCase):
    def test_stakes(self):
        for told in ((400, 600), (0, 1000), (1000, 0), (1, 999)):
            doubter = rival(2, told)
            self.stands(doubter, 2, "rival", 4, told + (0, 0), 125)
            for shares in ((1, 1), (1, 0), (0, 1), (2, 3), (1, 6)):
                self.stakes(doubter, doubter[2], shares,
                            [number - Fraction(1000 * share, sum(shares)) for number, share in zip(told, shares)])
        doubter = rival(3, (100, 200, 700))
        self.stands(doubter, 3, "rival", 4, (100, 200, 700, 0), 125)
        self.stakes(doubter, doubter[2], (1, 2, 5), [-25, -50, 75])

    def test_even_without_borders_and_still_the_same_behind_days(self):
        for told in ((400, 600), (100, 200, 700)):
            doubter = rival(many=len(told), told=told)
            self.assertEqual(all_borders(doubter), 0)
            self.assertIs(is_still(doubter, doubter[2]), True)
            for sign in range(len(told)):
                self.assertEqual(behind(doubter, doubter[2], (1,) * len(told), sign), doubter[2])


class AfterTest(ShelfCase):
    def test_along_days(self):
        chance = random.Random(7)
        for many in (2, 3):
            for sign in range(many):
                for then in range(many):
                    for side in (1, -1):
                        doubter = after(many, sign, then, side)
                        self.stands(doubter, many, "after", 0, ZERO, 100)
                        registers, came = doubter[2], None
                        for k in range(12):
                            shares = shares_by(chance, many)
                            expected = [0] * many
                            expected[then] = side * 100 if came == sign else 0
                            self.stakes(doubter, registers, shares, expected)
                            self.assertIs(is_still(doubter, registers), True)
                            came = chance.randrange(many)
                            registers = behind(doubter, registers, shares, came)
                        self.assertEqual(all_borders(doubter), 0)

    def test_by_names(self):
        self.assertEqual(after(many=2, sign=1, then=0, side=-1), after(2, 1, 0, -1))


class LaggingTest(ShelfCase):
    def test_along_days(self):
        chance = random.Random(8)
        for many in (2, 3):
            doubter = lagging(many=many)
            self.stands(doubter, many, "lagging", 4, ZERO, 125)
            self.assertEqual(all_borders(doubter), 0)
            registers, told = doubter[2], [0] * many
            for k in range(40):
                shares = shares_by(chance, many)
                expected = [number - Fraction(1000 * share, sum(shares)) for number, share in zip(told, shares)]
                self.stakes(doubter, registers, shares, expected)
                self.assertIs(is_still(doubter, registers), True)
                registers = behind(doubter, registers, shares, chance.randrange(many))
                told = [mills(shares, sign) for sign in range(many)]


def slow_misses(rows):
    total = Fraction(0)
    for shares, sign in rows:
        point = [Fraction(number, sum(shares)) for number in shares]
        total += sum((share - (place == sign)) ** 2 for place, share in enumerate(point))
    return (total.numerator, total.denominator)


class MissesTest(unittest.TestCase):
    def test_no_days(self):
        self.assertEqual(misses((), 2), (0, 1))
        self.assertEqual(misses(rows=(), many=3), (0, 1))
        self.assertEqual(rival_misses((), (400, 600)), (0, 1))
        self.assertEqual(rival_misses(rows=(), told=(0, 0, 1000)), (0, 1))

    def test_reckoned_by_hand(self):
        self.assertEqual(misses((((1, 0), 0),), 2), (0, 1))
        self.assertEqual(misses((((1, 0), 1),), 2), (2, 1))
        self.assertEqual(misses((((1, 1), 0),), 2), (1, 2))
        self.assertEqual(misses((((1, 1), 0), ((1, 1), 1)), 2), (1, 1))
        self.assertEqual(misses((((1, 2, 3), 2),), 3), (7, 18))
        self.assertEqual(rival_misses((((1, 0), 0), ((0, 1), 1)), (500, 500)), (1, 1))
        self.assertEqual(rival_misses((((1, 0), 0),), (1000, 0)), (0, 1))
        self.assertEqual(rival_misses((((1, 0, 0), 0),), (0, 0, 1000)), (2, 1))

    def test_by_fractions(self):
        chance = random.Random(20)
        for k in range(80):
            many = chance.choice((2, 3))
            rows = tuple((shares_by(chance, many), chance.randrange(many)) for j in range(chance.randint(1, 9)))
            self.assertEqual(misses(rows, many), slow_misses(rows))
            cut = sorted(chance.randint(0, 1000) for j in range(many - 1))
            told = tuple(b - a for a, b in zip([0] + cut, cut + [1000]))
            self.assertEqual(rival_misses(rows, told), slow_misses([(told, sign) for shares, sign in rows]))

    def test_told_misses_are_not_many_more_than_a_rivals(self):
        for seed in range(12):
            chance = random.Random(seed)
            many = chance.choice((2, 3))
            told = (200, 800) if many == 2 else (100, 300, 600)
            one = one_of(rival(many, told), 5000, rival(many, told)[2], 5000)
            house = (many, (one,) + kinky_house_by(chance, many, 4, 0)[1])
            rows = ()
            for k in range(12):
                shares, sign = find(house), chance.randrange(many)
                house = day(house, shares, sign)
                rows += ((shares, sign),)
                more = Fraction(*misses(rows, many)) - Fraction(*rival_misses(rows, told))
                self.assertLess(more, 8 * (sure(house[1][0]) + 1))


if __name__ == "__main__":
    unittest.main()
