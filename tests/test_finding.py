"""Points 2, 3 (a) (e) and 14: find."""

import copy
import random
import unittest

from nonegrowsrich.doubters import is_still
from nonegrowsrich.finding import find
from nonegrowsrich.houses import gain, is_house, is_right, ones
from nonegrowsrich.shares import is_shares
from tests.crooked import full, full_of_all
from tests.house_maker import (
    NONE, doubter_of, fig, figs, house_by, inner, kinky_house_by, one_of, rival_of, small_house_by, stakes_house,
    stepping_house_by,
)
from tests.slow_find import as_shares, slow_find, slow_lines

X, Y, Z = ("share", 0), ("share", 1), ("share", 2)


def where(sign, line, first, second):
    return ("where", sign, line, first, second)


class FindCase(unittest.TestCase):
    def finds(self, house):
        """What find tells, seen to be right shares in lowest numbers."""
        self.assertTrue(is_house(house))
        found = find(house)
        self.assertIsNotNone(found, house)
        self.assertIs(is_shares(found, house[0]), True)
        self.assertIs(is_right(house, found), True)
        for sign in range(house[0]):
            self.assertLessEqual(gain(house, found, sign), 0)
        return found

    def finds_just(self, house, shares):
        self.assertEqual(self.finds(house), shares)

    def finds_none(self, house):
        self.assertTrue(is_house(house))
        self.assertIsNone(find(house), house)


class PlainTest(FindCase):
    def test_empty_houses(self):
        for many in (2, 3):
            self.finds((many, ()))
            self.finds((many, (inner(inner()), inner())))

    def test_without_motes_all_is_right(self):
        jump = where(0, 500, fig(1), fig(-1))
        self.finds(stakes_house(jump, NONE, motes=0))
        self.finds(stakes_house(jump, NONE, NONE, motes=0))

    def test_ones_without_motes_do_not_count(self):
        against = one_of(doubter_of(2, stakes=(where(0, 500, fig(9), fig(-9)), NONE)))
        self.finds_just((2, (against, rival_of(2, (333, 667)))), (333, 667))

    def test_by_name(self):
        self.assertEqual(find(house=(2, (rival_of(2, (400, 600)),))), (2, 3))

    def test_again_the_same_and_nothing_changed(self):
        for seed in range(20):
            chance = random.Random(seed)
            house = small_house_by(chance, chance.choice((2, 3)))
            before = copy.deepcopy(house)
            self.assertEqual(find(house), find(before))
            self.assertEqual(house, before)

    def test_numbers_are_no_truths(self):
        for number in find(stakes_house(fig(1), NONE)) + find(stakes_house(NONE, NONE, fig(1))):
            self.assertIs(int, type(number))


class OneSuitsTest(FindCase):
    def test_a_rivals_mean(self):
        for told, shares in (((400, 600), (2, 3)), ((1000, 0), (1, 0)), ((1, 999), (1, 999)), ((500, 500), (1, 1))):
            self.finds_just((2, (rival_of(2, told),)), shares)
        for told, shares in (
            ((200, 300, 500), (2, 3, 5)), ((1000, 0, 0), (1, 0, 0)), ((0, 1, 999), (0, 1, 999)),
            ((333, 333, 334), (333, 333, 334)), ((998, 1, 1), (998, 1, 1)),
        ):
            self.finds_just((3, (rival_of(3, told),)), shares)

    def test_the_mean_of_rivals_by_their_motes(self):
        self.finds_just((2, (rival_of(2, (0, 1000), 1), rival_of(2, (1000, 0), 2))), (2, 1))
        rivals = tuple(rival_of(3, told, motes) for told, motes in (
            ((1000, 0, 0), 3), ((0, 1000, 0), 4), ((0, 0, 1000), 5)))
        self.finds_just((3, rivals), (3, 4, 5))

    def test_motes_of_many_figures(self):
        big = 10 ** 3000
        self.finds_just((2, (rival_of(2, (0, 1000), big + 1), rival_of(2, (1000, 0), big))), (big, big + 1))
        rivals = tuple(rival_of(3, told, motes) for told, motes in (
            ((1000, 0, 0), big), ((0, 1000, 0), big + 1), ((0, 0, 1000), big + 2)))
        self.finds_just((3, rivals), (big, big + 1, big + 2))

    def test_one_sign_alone(self):
        self.finds_just(stakes_house(*figs(1, 0)), (1, 0))
        self.finds_just(stakes_house(*figs(-1, 0)), (0, 1))
        for sign in range(3):
            stakes = [fig(-1)] * 3
            stakes[sign] = fig(0)
            self.finds_just(stakes_house(*stakes), tuple(int(place == sign) for place in range(3)))

    def test_two_signs_alone(self):
        # Sign 1 is always worse; of the others right is 1:3 alone.
        house = stakes_house(("less", fig(250), X), fig(-7000), ("less", fig(750), Z))
        self.finds_just(house, (1, 0, 3))

    def test_twelve_ones(self):
        for many, told in ((2, (125, 875)), (3, (125, 250, 625))):
            rivals = tuple(rival_of(many, told, 7 ** k) for k in range(12))
            self.finds_just((many, rivals), (1, 7) if many == 2 else (1, 2, 5))
            self.finds_just((many, (inner(*rivals[:5]), inner(inner(*rivals[5:])))), (1, 7) if many == 2 else (1, 2, 5))

    def test_far_apart_motes(self):
        strong = rival_of(3, (200, 300, 500), 10 ** 1000)
        weak = rival_of(3, (500, 300, 200), 1)
        found = self.finds((3, (strong, weak)))
        self.assertEqual(sum(found), 10 * (10 ** 1000 + 1))


class WhereTest(FindCase):
    def test_just_at_the_line(self):
        # Below 250 thousandths sign 0 pulls more, above them sign 1 does; just there both pull 0.
        lower = where(0, 250, fig(5), fig(0))
        upper = where(0, 250, fig(0), where(1, 750, fig(5), fig(0)))
        self.finds_just(stakes_house(lower, upper), (1, 3))
        # Sign 1 pulls more just there, too.
        self.finds_none(stakes_house(lower, where(0, 250, fig(0), fig(5))))

    def test_just_at_the_line_of_three(self):
        # The first two are even where they have as much; sign 2 pulls more below 250 thousandths, less above them.
        beside = (("less", fig(375), X), ("less", fig(375), Y))
        self.finds_just(stakes_house(*beside, where(2, 250, fig(100), ("times", 9, ("less", fig(250), Z)))), (3, 3, 2))
        self.finds_none(stakes_house(*beside, where(2, 250, fig(100), fig(-100))))

    def test_at_one_side_of_a_line(self):
        # Sign 0 pulls as much as sign 1 below 300 thousandths alone, more from there on up to 600, less behind.
        stake = where(0, 300, fig(0), where(0, 600, fig(1), fig(-1)))
        found = self.finds(stakes_house(where(0, 1, fig(5), stake), fig(0)))
        self.assertTrue(0 < 1000 * found[0] < 300 * sum(found), found)

    def test_an_open_stretch_alone(self):
        # Right are just the shares strictly between 499 and 500 thousandths.
        stake = where(0, 500, where(1, 501, fig(0), fig(5)), fig(-5))
        found = self.finds(stakes_house(stake, fig(0)))
        self.assertTrue(499 * sum(found) < 1000 * found[0] < 500 * sum(found), found)

    def test_a_narrow_stretch_alone_of_three(self):
        # Right are just the shares with both signs' from 300 thousandths on, below 301.
        stakes = [where(sign, 301, where(sign, 300, fig(9), fig(0)), fig(-9)) for sign in (0, 1)]
        found = self.finds(stakes_house(*stakes, fig(0)))
        for sign in (0, 1):
            self.assertTrue(300 * sum(found) <= 1000 * found[sign] < 301 * sum(found), found)

    def test_none_suit(self):
        self.finds_none(stakes_house(where(0, 500, fig(1), fig(-1)), fig(0)))
        self.finds_none(stakes_house(where(0, 1, fig(1), fig(-1)), fig(0)))
        self.finds_none(stakes_house(where(0, 1000, fig(1), fig(-1)), fig(0)))
        self.finds_none(stakes_house(where(0, 500, fig(1), fig(-1)), fig(0), fig(-2)))
        thirds = [where(sign, 334, fig(1), fig(-1)) for sign in range(3)]
        self.finds(stakes_house(*thirds))
        self.finds_none(stakes_house(where(0, 300, fig(2), fig(-2)), where(1, 300, fig(1), fig(-1)), fig(0)))

    def test_by_a_hair(self):
        jump = one_of(doubter_of(2, stakes=(where(0, 500, fig(1), fig(0)), NONE)), 10 ** 12)
        weak = one_of(doubter_of(2, scale=4, stakes=figs(1, 0)), 1)
        for figure, some in ((0, True), (1, True), (2, False)):
            back = one_of(doubter_of(2, scale=4, stakes=(NONE, where(0, 500, NONE, fig(figure)))), 1)
            house = (2, (jump, weak, back))
            if some:
                self.finds(house)
            else:
                self.finds_none(house)

    def test_by_the_registers(self):
        stake = ("by", 0, ("less", ("reg", 1), X))
        doubter = doubter_of(2, scale=0, stakes=(("least", fig(9), ("most", fig(-9), stake)), NONE))
        self.finds_just((2, (one_of(doubter, 3, (1, 125, 0, 0)),)), (1, 7))
        self.finds((2, (one_of(doubter, 3, (-1, 125, 0, 0)),)))
        self.finds((2, (one_of(doubter, 3, (0, 125, 0, 0)),)))


class SlowTest(FindCase):
    def agree(self, house):
        slow = slow_find(house)
        if slow is None:
            self.finds_none(house)
        else:
            self.assertTrue(is_right(house, as_shares(slow)))
            self.finds(house)
        return slow is None

    def test_two_signs(self):
        nones = 0
        for seed in range(250):
            house = small_house_by(random.Random(seed), 2)
            if len(slow_lines(house)) <= 40:
                nones += self.agree(house)
        self.assertGreater(nones, 20)

    def test_three_signs(self):
        nones = 0
        for seed in range(250):
            house = small_house_by(random.Random(seed), 3)
            if len(slow_lines(house)) <= 10:
                nones += self.agree(house)
        self.assertGreater(nones, 20)


class LargeTest(FindCase):
    def test_still_ones_always_have_some(self):
        for seed in range(60):
            chance = random.Random(seed)
            many = chance.choice((2, 3))
            house = kinky_house_by(chance, many, 60 if many == 3 else 100, 0)
            if is_house(house):
                self.assertTrue(all(is_still(one[1], one[2]) for path, one in ones(house)))
                self.finds(house)

    def test_still_ones_of_all_words(self):
        for seed in range(200):
            chance = random.Random(seed)
            house = house_by(chance, chance.choice((2, 3)))
            if all(is_still(one[1], one[2]) for path, one in ones(house)):
                self.finds(house)

    def test_as_many_borders_as_there_may_be(self):
        for many in (2, 3):
            self.finds((many, full_of_all(many)))
            first, second = ((one[:4] + (motes,) + one[5:]) for one, motes in zip(full(many), (10 ** 30, 7 ** 31)))
            self.finds((many, (first, second)))
            self.finds((many, (first, second, rival_of(many, (100, 900) if many == 2 else (100, 200, 700), 10 ** 29))))

    def test_houses_in_houses_change_nothing(self):
        for seed in range(40):
            chance = random.Random(seed)
            many = chance.choice((2, 3))
            many, members = stepping_house_by(chance, many, 4)
            nested = (many, (inner(members[0], inner(inner(members[1]))), inner(), inner(*members[2:])))
            flat = find((many, members))
            found = find(nested)
            self.assertEqual(found is None, flat is None)
            if found is not None:
                self.assertTrue(is_right((many, members), found))


if __name__ == "__main__":
    unittest.main()
