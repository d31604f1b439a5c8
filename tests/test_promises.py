"""Point 3 over the whole program: all that is told of days by keepers and desks, together."""

import random
import unittest
from fractions import Fraction

from nonegrowsrich.chances import off, sure
from nonegrowsrich.days import day, days, told_days
from nonegrowsrich.desk import Desk
from nonegrowsrich.doubters import bound, is_still, stakes_at
from nonegrowsrich.finding import find
from nonegrowsrich.houses import gain, is_house, is_right, motes, ones, pull
from nonegrowsrich.keeper import Keeper
from nonegrowsrich.nones import answer, none_paper, shows_none
from nonegrowsrich.shelf import after, lagging, misses, rival, rival_misses, tent
from nonegrowsrich.texts import read_house, show_doubter, show_house
from tests.expression_maker import shares_by
from tests.house_maker import doubter_by, kinky_house_by, stepping_house_by


def doubter_for(chance, many):
    """A doubter of the shelf or by chance."""
    told = (300, 700) if many == 2 else (150, 250, 600)
    sign, side = chance.randrange(many), chance.choice((1, -1))
    return chance.choice((
        tent(many, sign, chance.randint(0, 1000), chance.randint(1, 500), side), rival(many, told),
        after(many, sign, chance.randrange(many), side), lagging(many), doubter_by(chance, many, 3),
    ))


def worst_sign(house, shares):
    """The sign by which the most comes into the house."""
    return max(range(house[0]), key=lambda sign: gain(house, shares, sign))


def factor(one, shares, sign):
    """What the one's motes are multiplied by, ahead of rounding."""
    stakes = [Fraction(stake, 1000 * 2 ** one[1][1] * sum(shares)) for stake in stakes_at(one[1], one[2], shares)]
    return 1 + stakes[sign] - sum(stake * Fraction(number, sum(shares)) for stake, number in zip(stakes, shares))


class PromiseTest(unittest.TestCase):
    def test_right_is_where_no_sign_has_a_gain_above_0(self):
        for seed in range(60):
            chance = random.Random(seed)
            many = chance.choice((2, 3))
            house = stepping_house_by(chance, many, 3)
            for shares in [shares_by(chance, many) for k in range(10)] + [find(house)]:
                if shares is not None:
                    gains = [gain(house, shares, sign) for sign in range(many)]
                    self.assertEqual(is_right(house, shares), max(gains) <= 0)

    def test_all_days_of_a_keeper(self):
        """(a) to (d): some are told wherever all are even; motes never rise; factors and off are within what is told."""
        days_seen = 0
        for seed in range(20):
            chance = random.Random(seed)
            many = chance.choice((2, 3))
            keeper = Keeper(many)
            products = []
            for k in range(15):
                if len(keeper) < 7 and chance.random() < 0.6:
                    keeper.join((), doubter_for(chance, many), chance.choice((1, 30, 10 ** 6)))
                    products.append(Fraction(1))
                shares = keeper.tell()
                house = keeper.house()
                if shares is None:
                    self.assertFalse(all(is_still(one[1], one[2]) for path, one in ones(house)))
                    self.assertTrue(shows_none(house, none_paper(house)))
                    keeper.leave((len(keeper) - 1,))
                    products.pop()
                    continue
                sign = worst_sign(house, shares) if chance.random() < 0.5 else chance.randrange(many)
                factors = [factor(one, shares, sign) for path, one in ones(house)]
                products = [first * second for first, second in zip(products, factors)]
                self.assertEqual(keeper.see(sign), motes(keeper.house()))
                days_seen += 1
                joined, went = keeper.moved()
                self.assertLessEqual(motes(keeper.house()), motes(house))
                self.assertLessEqual(motes(keeper.house()), joined - went)
                for (path, one), product in zip(ones(keeper.house()), products):
                    self.assertLessEqual(one[3] * product, one[4] + one[5])
                    self.assertLessEqual(off(one), sure(one))
        self.assertGreater(days_seen, 100)

    def test_trees_answer_whatever_is_told(self):
        for seed in range(40):
            chance = random.Random(seed)
            many = chance.choice((2, 3))
            house = stepping_house_by(chance, many, 2)
            tree = none_paper(house)
            self.assertEqual(tree is None, find(house) is not None)
            if tree is not None:
                for k in range(20):
                    shares = shares_by(chance, many)
                    sign = answer(tree, shares)
                    self.assertGreater(gain(house, shares, sign), 0)
                    self.assertEqual(pull(house, shares)[sign], max(pull(house, shares)))

    def test_rules_of_chance_hold(self):
        """A rival and a lagging one: told shares miss by little more than theirs."""
        for many, told in ((2, (200, 800)), (3, (100, 300, 600))):
            for seed in range(4):
                chance = random.Random(seed)
                keeper = Keeper(many)
                keeper.join((), rival(many, told), 1000)
                keeper.join((), lagging(many), 1000)
                keeper.join((), tent(many, 0, 250, 100, 1), 500)
                for k in range(25):
                    shares = keeper.tell()
                    keeper.see(worst_sign(keeper.house(), shares) if seed % 2 else chance.randrange(many))
                    house, rows = keeper.house(), keeper.rows()
                    more = Fraction(*misses(rows, many)) - Fraction(*rival_misses(rows, told))
                    self.assertLess(more, 8 * (sure(house[1][0]) + 1))
                    self.assertEqual((bound(house[1][0][1]), bound(house[1][2][1])), (125, 100))

    def test_a_desk_and_the_functions(self):
        """(f): a desk's shown house is read and told on by the functions as by the desk."""
        for seed in range(12):
            chance = random.Random(seed)
            many = chance.choice((2, 3))
            desk = Desk(many)
            desk.say("found - inn")
            for k in range(4):
                text = show_doubter(doubter_for(chance, many)).replace("\n", ";")
                desk.say(f"join {chance.choice(('-', '0'))} {chance.randint(1, 999)} {text}")
            house = read_house(desk.say("show").replace(";", "\n"))
            self.assertTrue(is_house(house))
            signs = [chance.randrange(many) for k in range(6)]
            tellings, behind = told_days(house, tuple(signs))
            for shares, sign in zip(tellings, signs):
                self.assertEqual(desk.say("tell"), ":".join(str(number) for number in shares))
                house = day(house, shares, sign)
                self.assertEqual(desk.say(f"see {sign}"), str(motes(house)))
                self.assertEqual(desk.say("show").replace(";", "\n"), show_house(house))
            self.assertEqual(house, behind)
            if len(tellings) < len(signs):
                self.assertEqual(desk.say("tell"), "none")
            for k in tellings:
                desk.say("back")
            first = read_house(desk.say("show").replace(";", "\n"))
            self.assertEqual(days(first, tuple(zip(tellings, signs))), behind)

    def test_written_and_read_again_along_days(self):
        for seed in range(10):
            chance = random.Random(seed)
            many = chance.choice((2, 3))
            house = kinky_house_by(chance, many, 6, 0.2)
            for k in range(5):
                tellings, house = told_days(house, (chance.randrange(many),))
                self.assertEqual(read_house(show_house(house)), house)


if __name__ == "__main__":
    unittest.main()
