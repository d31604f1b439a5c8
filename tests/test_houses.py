"""Points 2, 3 (a) (e), 11 and 13: is_house, ones, motes, pull, gain, is_right."""

import copy
import random
import unittest
from fractions import Fraction

from nonegrowsrich.expressions import borders
from nonegrowsrich.houses import gain, is_house, is_right, motes, ones, pull
from tests.anything import nested, spots, with_spot, wrong_in_place_of, wrong_things
from tests.crooked import B20, B37, B135, B264, crooked, full, full_of_all, one_more
from tests.expression_maker import shares_by
from tests.house_maker import NONE, ZERO, chain_of_houses, doubter_of, figs, house_by, inner, one_of
from tests.slow import slow_worth

X, Y = ("share", 0), ("share", 1)
LEAP = ("where", 0, 500, ("fig", 0), ("fig", 9))
PLAIN = {many: one_of(doubter_of(many), motes=5) for many in (2, 3)}
RICH = {
    many: ("one", doubter_of(many, "rich", 2, (1, 2, 3, 4), (LEAP,) * many, ((("put", 0, 1),),) * many),
           (-1000, 1000, 0, 7), 10 ** 12, 10 ** 40, 3, 10 ** 9, -10 ** 20)
    for many in (2, 3)
}
MIXED = {many: (many, (PLAIN[many], inner(inner(RICH[many]), PLAIN[many], inner()), RICH[many])) for many in (2, 3)}


class HousesCase(unittest.TestCase):
    def takes(self, thing):
        self.assertIs(is_house(thing), True)

    def refuses(self, thing):
        before = copy.deepcopy(thing)
        self.assertIs(is_house(thing), False, thing)
        self.assertEqual(thing, before)


class IsHouseTest(HousesCase):
    def test_empty_ones_and_mixed_ones(self):
        for many in (2, 3):
            self.takes((many, ()))
            self.takes((many, (PLAIN[many],)))
            self.takes((many, (RICH[many], RICH[many])))
            self.takes((many, (inner(),)))
            self.takes(MIXED[many])

    def test_by_name(self):
        self.assertIs(is_house(thing=(2, ())), True)

    def test_many(self):
        for many in (0, 1, 4, -2, 10 ** 30, True, False, None, "2", (2,), [2], {}):
            self.refuses((many, ()))
            self.refuses((many, (PLAIN[2],)))

    def test_ones_of_another_many(self):
        self.refuses((2, (PLAIN[3],)))
        self.refuses((3, (PLAIN[2],)))
        self.refuses((2, (PLAIN[2], inner(PLAIN[3]))))

    def test_a_tuple_of_two(self):
        for many in (2, 3):
            members = (PLAIN[many],)
            for thing in (
                (), (many,), (members,), (many, members, ()), (members, many), [many, members], (many, [PLAIN[many]]),
                (many, []), (many, {}), (many, ""), (many, None), (many, 0), (many, PLAIN[many]), (many, inner()),
                ((many, members),), (many, (members,)), (many, ((many, members),)), (many, ((),)), ("house", "h", ()),
            ):
                self.refuses(thing)

    def test_numbers_of_a_one(self):
        whole = [0, 1, 10 ** 60, 10 ** 5000]
        for at, taken, refused in (
            (3, [1, 2, 10 ** 12 - 1, 10 ** 12], [0, -1, 10 ** 12 + 1, 10 ** 30]),
            (4, whole, [-1, -10 ** 30]),
            (5, whole, [-1, -10 ** 30]),
            (6, whole, [-1, -10 ** 30]),
            (7, whole + [-1, -10 ** 60, -10 ** 5000], []),
        ):
            for many in (2, 3):
                for number in taken:
                    self.takes((many, (with_spot(PLAIN[many], (at,), number),)))
                    self.takes((many, (inner(with_spot(PLAIN[many], (at,), number)),)))
                for thing in refused + [True, False, None, "1", (1,), [1], {}]:
                    self.assertIs(is_house((many, (with_spot(PLAIN[many], (at,), thing),))), False)
                    self.assertIs(is_house((many, (inner(with_spot(PLAIN[many], (at,), thing)),))), False)

    def test_registers_of_a_one(self):
        for place in range(4):
            for number in (-1000, 0, 1000):
                self.takes((2, (with_spot(PLAIN[2], (2, place), number),)))
            for number in (-1001, 1001, True, None, "0"):
                self.refuses((2, (with_spot(PLAIN[2], (2, place), number),)))
        for registers in ((), (0, 0, 0), (0,) * 5, [0] * 4, None, 0):
            self.refuses((2, (with_spot(PLAIN[2], (2,), registers),)))

    def test_doubter_of_a_one(self):
        for doubter in (
            doubter_of(2, name="abcdefghi"), doubter_of(2, scale=5), doubter_of(2, stakes=figs(501, 0)), (), None,
            doubter_of(2, behinds=((), (("put", 0, 1),) * 21)), list(doubter_of(2)), doubter_of(2) + (0,),
        ):
            self.refuses((2, (one_of(doubter),)))
            self.refuses((2, (PLAIN[2], inner(inner(one_of(doubter))))))
        self.takes((2, (one_of(doubter_of(2, name="abcdefgh", scale=4, stakes=figs(8000, -8000))),)))

    def test_an_item_more_or_fewer(self):
        for member in (PLAIN[2], inner(PLAIN[2])):
            for item in (0, (), None):
                self.refuses((2, (member + (item,),)))
                self.refuses((2, ((item,) + member,)))
            for at in range(len(member)):
                self.refuses((2, (member[:at] + member[at + 1:],)))
                self.refuses((2, (member[:at],)))
            self.refuses((2, (list(member),)))
            self.refuses((2, ((member,),)))

    def test_words_of_members(self):
        for word in ("", "One", "ones", "House", "house ", "in", None, 0, True, ("one",), ["one"], {}):
            self.refuses((2, (with_spot(PLAIN[2], (0,), word),)))
            self.refuses((2, (with_spot(inner(), (0,), word),)))
        self.refuses((2, (with_spot(PLAIN[2], (0,), "house"),)))
        self.refuses((2, (with_spot(inner(), (0,), "one"),)))

    def test_names_of_houses(self):
        for name in ("a", "z", "abcdefgh"):
            self.takes((2, (inner(name=name), inner(inner(name=name), name=name))))
        for name in ("", "abcdefghi", "A", "a1", "a b", "a\n", "\u00e4", "-", None, 0, True, ("a",), ["a"], b"a"):
            self.refuses((2, (inner(name=name),)))
            self.refuses((3, (inner(inner(name=name)),)))

    def test_members_of_houses(self):
        for members in ([], [PLAIN[2]], {}, "", None, 0, PLAIN[2], (None,), ((),), ([],), (PLAIN[2], 0)):
            self.refuses((2, (("house", "h", members),)))
            self.refuses((2, (inner(("house", "h", members)),)))


class HowManyTest(HousesCase):
    def test_twelve_ones(self):
        for many in (2, 3):
            one = PLAIN[many]
            for count in (1, 11, 12):
                self.takes((many, (one,) * count))
                self.takes((many, (inner(*(one,) * count),)))
                self.takes((many, (one,) * (count - 1) + (inner(inner(inner(one))),)))
            for count in (13, 14, 24, 25, 400):
                self.refuses((many, (one,) * count))
                self.refuses((many, (inner(*(one,) * count),)))
            self.refuses((many, (one,) * 12 + (inner(inner(inner(one))),)))
            self.refuses((many, (inner(*(one,) * 6), inner(*(one,) * 7))))
            self.takes((many, (inner(*(one,) * 6), inner(*(one,) * 6))))

    def test_twelve_houses(self):
        for many in (2, 3):
            for count in (1, 11, 12):
                self.takes((many, (inner(),) * count))
                self.takes((many, (inner(*(inner(),) * (count - 1)),)))
                self.takes((many, (inner(PLAIN[many]),) * count))
            for count in (13, 14, 25, 400):
                self.refuses((many, (inner(),) * count))
                self.refuses((many, (inner(*(inner(),) * (count - 1)),)))
            self.takes((many, (inner(inner(inner())),) * 4))
            self.refuses((many, (inner(inner(inner())),) * 4 + (inner(),)))

    def test_twelve_of_each_side_by_side(self):
        for many in (2, 3):
            for members in ((PLAIN[many],) * 12 + (inner(),) * 12, (inner(), PLAIN[many]) * 12):
                self.takes((many, members))
                self.refuses((many, members + (inner(),)))
                self.refuses((many, (PLAIN[many],) + members))

    def test_three_deep(self):
        for many in (2, 3):
            for deep in (1, 2, 3):
                self.takes((many, (chain_of_houses(deep),)))
                self.takes((many, (PLAIN[many], chain_of_houses(deep, PLAIN[many]))))
            for deep in (4, 5, 12, 13):
                self.refuses((many, (chain_of_houses(deep),)))
                self.refuses((many, (PLAIN[many], chain_of_houses(deep, PLAIN[many]))))

    def test_borders_counted_by_hand(self):
        self.assertEqual([borders(stake) for stake in (B20, B37, B135, B264)], [20, 37, 135, 264])
        for many, most in ((2, 400), (3, 60)):
            counted = [borders(stake) for one in full(many) for stake in one[1][3]]
            self.assertEqual(sum(counted), most)

    def test_borders_of_all_stakes_of_all_ones(self):
        for many in (2, 3):
            first, second = full(many)
            more = one_more(many)
            self.takes((many, (first, second)))
            self.takes((many, (first, inner(inner(inner(second))))))
            self.takes((many, (first, second, PLAIN[many])))
            for members in (
                (first, second, more), (more, first, second), (first, inner(second), inner(inner(more))),
                (inner(inner(inner(first, second, more))),), (first, first), (second, second, first),
            ):
                self.refuses((many, members))

    def test_borders_by_many(self):
        stakes = (B37, B20, ("least", X, ("sum", X, ("least", X, Y))))
        # 37 + 20 + 3: with one more 61, too many of three signs alone.
        self.assertEqual(sum([borders(stake) for stake in stakes]), 60)
        self.takes((3, (crooked(*stakes),)))
        self.refuses((3, (crooked(*stakes), one_more(3))))
        self.takes((2, (crooked(*stakes[:2]), crooked(NONE, stakes[2]), one_more(2))))

    def test_borders_of_ones_without_motes_count(self):
        for many in (2, 3):
            first, second = full(many)
            self.assertEqual((first[4], second[4]), (0, 0))
            self.refuses((many, (first, second, with_spot(one_more(many), (4,), 0))))

    def test_all_at_once(self):
        for many in (2, 3):
            members = full_of_all(many)
            self.takes((many, members))
            self.refuses((many, members + (PLAIN[many],)))
            self.refuses((many, members + (inner(),)))
            self.refuses((many, (inner(members[0]),) + members[1:-3] + members[-2:]))
            self.takes((many, members[:-1] + (PLAIN[many],)))
            self.refuses((many, members[:-1] + (one_more(many),)))


class IsHouseOfAnythingTest(HousesCase):
    def test_of_anything(self):
        for thing in wrong_things():
            self.refuses(thing)

    def test_anything_in_each_place(self):
        for many in (2, 3):
            for item in wrong_things():
                if item != ():
                    self.refuses((many, item))
                    self.refuses((many, (("house", "h", item),)))
                self.refuses((many, (item,)))
                self.refuses((many, (PLAIN[many], inner(item))))
                self.refuses((item, ()))
                self.refuses((many, (one_of(item),)))
                if item != "fig":
                    self.refuses((many, (inner(name=item),)))

    def test_wrong_kinds_at_each_spot(self):
        for many in (2, 3):
            standing = dict(spots(MIXED[many]))
            for path, item in standing.items():
                around = standing[path[:-1]] if path else ()
                # Motes, owed, days and got have no greatest number.
                boundless = around[:1] == ("one",) and path[-1] >= 4
                for wrong in wrong_in_place_of(item):
                    if not (boundless and wrong == 10 ** 60):
                        self.refuses(with_spot(MIXED[many], path, wrong))

    def test_nested_thirty_deep(self):
        one = PLAIN[2]
        for make in (
            lambda x: ("house", "h", (x,)), lambda x: ("house", "h", (x, x)), lambda x: (2, (x,)), lambda x: (2, x),
            lambda x: ("one", x, ZERO, 1, 1, 1, 1, 1), lambda x: {"house": x}, lambda x: ["house", "h", (x,)],
            lambda x: ("house", "h", x), lambda x: ("house", x, ()), lambda x: ("one", one[1], x, 1, 1, 1, 1, 1),
        ):
            for deep in (1, 4, 12, 14):
                thing = nested(make, deep)
                self.assertIs(is_house(thing), False)
                self.assertIs(is_house((2, thing)), False)
                self.assertIs(is_house((2, (thing,))), False)
                self.assertIs(is_house((thing, ())), False)

    def test_very_many_parts(self):
        for thing in ((2, (PLAIN[2],) * 2000), (2, (inner(),) * 6000), (2, (0,) * 19000), (2, (RICH[3],) * 500)):
            self.assertIs(is_house(thing), False)


class OnesAndMotesTest(unittest.TestCase):
    def setUp(self):
        self.named = {name: one_of(doubter_of(2, name), worth) for name, worth in zip("abcde", (1, 20, 0, 4000, 5))}

    def test_as_they_stand(self):
        a, b, c, d, e = self.named.values()
        house = (2, (a, inner(b, inner(c), inner(), d), inner(), inner(inner(inner(e))), a))
        self.assertEqual(ones(house), (
            ((0,), a), ((1, 0), b), ((1, 1, 0), c), ((1, 3), d), ((3, 0, 0, 0), e), ((4,), a),
        ))
        self.assertEqual(motes(house), 4027)

    def test_empty_ones(self):
        for many in (2, 3):
            for house in ((many, ()), (many, (inner(), inner(inner())))):
                self.assertEqual(ones(house), ())
                self.assertEqual(motes(house), 0)

    def test_of_three_signs(self):
        self.assertEqual(ones(MIXED[3]), (
            ((0,), PLAIN[3]), ((1, 0, 0), RICH[3]), ((1, 1), PLAIN[3]), ((2,), RICH[3]),
        ))
        self.assertEqual(motes(MIXED[3]), 2 * 10 ** 40 + 10)

    def test_motes_alone_are_counted(self):
        self.assertEqual(motes((2, (one_of(doubter_of(2), 7, weight=100, owed=1000, days=10, got=-5),))), 7)

    def test_by_names_and_told_again(self):
        self.assertEqual(ones(house=MIXED[2]), ones(MIXED[2]))
        self.assertEqual(motes(house=MIXED[2]), 2 * 10 ** 40 + 10)
        self.assertIs(type(ones(MIXED[2])), tuple)
        self.assertTrue(all(type(pair) is tuple and type(pair[0]) is tuple for pair in ones(MIXED[2])))


def flat(house):
    """The house with all its ones straight in it."""
    return (house[0], tuple(one for path, one in ones(house)))


class PullTest(unittest.TestCase):
    # At (2, 3): worths (500, -250), and of the other (35, 3000).
    steady = one_of(doubter_of(2, scale=0, stakes=figs(100, -50)), motes=10)
    other = one_of(doubter_of(2, scale=4, begins=(1, 1, 1, 1), stakes=(("reg", 0), Y)), 3, (7, 0, 0, 0))
    house = (2, (steady, inner(inner(other), inner())))
    # At (1, 2, 1): worths (1000, -2000, 400).
    three = (3, (one_of(doubter_of(3, scale=1, stakes=(X, ("times", -1, Y), ("fig", 100))), motes=2),))

    def test_of_two_signs(self):
        self.assertEqual(pull((2, (self.steady,)), (2, 3)), (80000, -40000))
        self.assertEqual(pull((2, (self.other,)), (2, 3)), (105, 9000))
        self.assertEqual(pull(self.house, (2, 3)), (80105, -31000))
        self.assertEqual([gain(self.house, (2, 3), sign) for sign in (0, 1)], [333315, -222210])
        self.assertEqual(pull(self.house, (1, 0)), (16021, -8000))
        self.assertEqual([gain(self.house, (1, 0), sign) for sign in (0, 1)], [0, -24021])
        self.assertEqual(pull(self.house, (0, 1)), (16021, -5000))
        self.assertEqual([gain(self.house, (0, 1), sign) for sign in (0, 1)], [21021, 0])

    def test_of_three_signs(self):
        self.assertEqual(pull(self.three, (1, 2, 1)), (16000, -32000, 6400))
        self.assertEqual([gain(self.three, (1, 2, 1), sign) for sign in range(3)], [105600, -86400, 67200])

    def test_each_scale(self):
        for scale, factor in enumerate((16, 8, 4, 2, 1)):
            house = (2, (one_of(doubter_of(2, scale=scale, stakes=figs(3, -2)), motes=5),))
            self.assertEqual(pull(house, (1, 1)), (30 * factor, -20 * factor))

    def test_motes_alone_weigh(self):
        doubter = doubter_of(2, scale=4, stakes=figs(1, 2))
        for more in ({"weight": 9}, {"owed": 9}, {"days": 9}, {"got": 9}):
            self.assertEqual(pull((2, (one_of(doubter, 1, **more),)), (1, 0)), (1, 2))

    def test_ones_without_motes(self):
        lone = one_of(doubter_of(2, stakes=figs(500, -500)))
        self.assertEqual(pull((2, (lone,)), (1, 1)), (0, 0))
        self.assertEqual(pull((2, (lone, self.steady, inner(lone))), (2, 3)), (80000, -40000))
        self.assertIs(is_right((2, (lone,)), (1, 1)), True)

    def test_empty_houses(self):
        for house, rows in (
            ((2, ()), ((1, 0), (0, 1), (1, 1), (3, 7))), ((2, (inner(), inner(inner()))), ((1, 1), (1, 0))),
            ((3, ()), ((1, 0, 0), (1, 1, 1), (0, 2, 3))),
        ):
            for shares in rows:
                self.assertEqual(pull(house, shares), (0,) * house[0])
                self.assertEqual([gain(house, shares, sign) for sign in range(house[0])], [0] * house[0])
                self.assertIs(is_right(house, shares), True)

    def test_by_names_and_told_again(self):
        self.assertEqual(pull(shares=(2, 3), house=self.house), (80105, -31000))
        self.assertEqual(gain(sign=1, shares=(2, 3), house=self.house), -222210)
        self.assertIs(is_right(shares=(2, 3), house=self.house), False)
        self.assertIs(type(pull(self.house, (2, 3))), tuple)
        self.assertEqual(pull(self.house, (2, 3)), pull(self.house, (2, 3)))


class IsRightTest(unittest.TestCase):
    def pulled(self, *numbers):
        """A house whose pulls, by n, are these numbers at all shares."""
        return (len(numbers), (inner(one_of(doubter_of(len(numbers), scale=4, stakes=figs(*numbers)), 1)),))

    def test_of_two_signs(self):
        for numbers, right in (
            ((5, 3), {(1, 0)}), ((3, 5), {(0, 1)}), ((4, 4), {(1, 0), (0, 1), (1, 1), (1, 9)}),
            ((-1, 0), {(0, 1)}), ((-3, -3), {(1, 0), (0, 1), (1, 1), (1, 9)}),
        ):
            for shares in ((1, 0), (0, 1), (1, 1), (1, 9)):
                self.assertIs(is_right(self.pulled(*numbers), shares), shares in right, (numbers, shares))

    def test_of_three_signs(self):
        rows = ((1, 0, 0), (0, 1, 0), (0, 0, 1), (1, 2, 0), (1, 0, 2), (0, 1, 2), (1, 1, 1))
        for numbers, right in (
            ((5, 5, 3), rows[:2] + rows[3:4]), ((3, 5, 5), rows[1:3] + rows[5:6]),
            ((5, 3, 5), (rows[0], rows[2], rows[4])), ((1, 2, 3), rows[2:3]), ((3, 2, 1), rows[:1]),
            ((-5, 0, -5), rows[1:2]), ((7, 7, 7), rows),
        ):
            for shares in rows:
                self.assertIs(is_right(self.pulled(*numbers), shares), shares in right, (numbers, shares))

    def test_a_rival(self):
        stakes = tuple(("less", ("reg", sign), ("share", sign)) for sign in range(3))
        house = (3, (one_of(doubter_of(3, scale=2, stakes=stakes), 4, (200, 300, 500, 0)),))
        self.assertIs(is_house(house), True)
        self.assertIs(is_right(house, (2, 3, 5)), True)
        for shares in ((2, 3, 4), (20, 30, 51), (1, 1, 1), (0, 0, 1), (2, 3, 0)):
            self.assertIs(is_right(house, shares), False)

    def test_alone_on_one_sign(self):
        # The sign pulls less where its share is greater; alone on it, it must still have the greatest pull.
        stakes = (("less", ("fig", 100), X), NONE)
        house = (2, (one_of(doubter_of(2, scale=1, stakes=stakes), 1),))
        self.assertIs(is_right(house, (1, 0)), False)
        self.assertIs(is_right(house, (0, 1)), False)
        self.assertIs(is_right(house, (1, 9)), True)
        stakes = (("less", ("fig", 1000), X), NONE)
        house = (2, (one_of(doubter_of(2, scale=1, stakes=stakes), 1),))
        self.assertIs(is_right(house, (1, 0)), True)
        self.assertIs(is_right(house, (999, 1)), False)

    def test_great_numbers_are_reckoned_just(self):
        great = 10 ** 40
        stakes = (("less", ("fig", 500), X), ("less", ("fig", 500), Y))
        house = (2, (one_of(doubter_of(2, scale=1, stakes=stakes), great),))
        self.assertIs(is_right(house, (1, 1)), True)
        self.assertIs(is_right(house, (great, great + 1)), False)
        self.assertEqual(pull(house, (great, great + 1)), (8 * great * 500, -8 * great * 500))


class MadeByChanceTest(unittest.TestCase):
    def setUp(self):
        self.chance = random.Random(13)

    def rows(self, times):
        for k in range(times):
            many = self.chance.choice((2, 3))
            yield house_by(self.chance, many), shares_by(self.chance, many)

    def test_pulls_with_a_slow_reckoner(self):
        for house, shares in self.rows(120):
            n = sum(shares)
            point = [Fraction(number, n) for number in shares]
            slow = [Fraction(0)] * house[0]
            for path, (word, doubter, registers, weight, held, *rest) in ones(house):
                for sign, stake in enumerate(doubter[3]):
                    slow[sign] += held * slow_worth(stake, registers, point) / 2 ** doubter[1]
            self.assertEqual(pull(house, shares), tuple(16 * n * number for number in slow))
            paid = sum(a * b for a, b in zip(point, slow))
            for sign in range(house[0]):
                self.assertEqual(gain(house, shares, sign), 16 * n * n * (slow[sign] - paid))

    def test_right_just_where_no_gain_is_above_nothing(self):
        seen = set()
        for house, shares in self.rows(300):
            told = is_right(house, shares)
            self.assertIs(told, all(gain(house, shares, sign) <= 0 for sign in range(house[0])))
            seen.add(told)
        self.assertEqual(seen, {True, False})

    def test_houses_in_houses_change_nothing(self):
        for house, shares in self.rows(120):
            plain = flat(house)
            self.assertIs(is_house(plain), True)
            self.assertEqual(pull(house, shares), pull(plain, shares))
            self.assertEqual(is_right(house, shares), is_right(plain, shares))
            for sign in range(house[0]):
                self.assertEqual(gain(house, shares, sign), gain(plain, shares, sign))
            self.assertEqual(motes(house), motes(plain))

    def test_paths_lead_to_their_ones(self):
        for house, shares in self.rows(60):
            paths = [path for path, one in ones(house)]
            self.assertEqual(paths, sorted(paths))
            for path, one in ones(house):
                members = house[1]
                for number in path[:-1]:
                    members = members[number][2]
                self.assertEqual(members[path[-1]], one)


if __name__ == "__main__":
    unittest.main()
