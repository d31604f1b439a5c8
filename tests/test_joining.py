"""Points 2 and 12: joined, left, and the refusals NoPlace and Crowded."""

import copy
import random
import unittest

from nonegrowsrich.errors import Crowded, Missing, NoPlace, Refused
from nonegrowsrich.houses import is_house, joined, left, motes, ones
from tests.anything import wrong_things
from tests.crooked import B37, B264, crooked, full, full_of_all, one_more
from tests.house_maker import NONE, chain_of_houses, doubter_of, house_by, inner, one_of

A, B, C, D = [one_of(doubter_of(2, name), held) for name, held in zip("abcd", (1, 20, 300, 4000))]
PLAIN = {many: one_of(doubter_of(many), 5) for many in (2, 3)}

# Members 0 and 3 are ones, 1 is a house of a one and a house of a one, 2 is an empty house.
HOUSE = (2, (A, inner(B, inner(C, name="deep")), inner(name="bare"), D))

HOUSE_PATHS = [(), (1,), (1, 1), (2,)]
ONE_PATHS = [(0,), (1, 0), (1, 1, 0), (3,)]
NUMBERS_LEADING_NOWHERE = [
    (4,), (5,), (10 ** 30,), (-1,), (-2,), (-3,), (-4,), (-10 ** 30,), (0, 0), (0, -1), (1, 2), (1, -1), (1, -2),
    (-3, 1), (-3, -1), (1, 1, 1), (1, 1, -1), (1, -1, 0), (1, 1, 0, 0), (1, 0, 0), (2, 0), (2, -1), (3, 0), (4, 0),
    (1, 1, 0, 0, 0), (2, 0, 0), (0,) * 30, (1,) * 30,
]
NO_PATHS = [
    [], "", {}, None, True, False, 0, 1, -1, "0", "1", "1.1", "-", [1], [1, 1], [2], {1: 1}, {0: 0}, (True,), (False,),
    (1, True), (True, 1), (1, False), (1, True, 0), (None,), ("1",), ("",), ((),), ((1,),), ([1],), ({},), (1, None),
    (1, "1"), (1, (1,)), (1, []), (1, ()), (2, None), (1, 1, None), (1, 1, "0"), (1, 1, False), (1, ""), ("1", 1),
]


class JoiningCase(unittest.TestCase):
    def no_place(self, ask, path):
        """Checks that the path, or one like it, is refused, and is told as handed in."""
        before = copy.deepcopy(path)
        with self.assertRaises(NoPlace) as held:
            ask(path)
        self.assertIs(held.exception.path, path)
        self.assertEqual(path, before)
        self.assertIsInstance(held.exception, Missing)

    def crowded(self, what, house, path, member):
        before = copy.deepcopy((house, path, member))
        with self.assertRaises(Crowded) as held:
            joined(house, path, member)
        self.assertEqual(held.exception.what, what)
        self.assertIs(type(held.exception.what), str)
        self.assertIsInstance(held.exception, Refused)
        self.assertEqual((house, path, member), before)


class JoinedTest(JoiningCase):
    def test_behind_the_others_at_each_path(self):
        for member in (D, inner(), inner(A, inner(B), name="new")):
            for path, told in (
                ((), (2, HOUSE[1] + (member,))),
                ((1,), (2, (A, inner(B, inner(C, name="deep"), member), inner(name="bare"), D))),
                ((2,), (2, (A, inner(B, inner(C, name="deep")), inner(member, name="bare"), D))),
            ):
                before = copy.deepcopy(HOUSE)
                self.assertEqual(joined(HOUSE, path, member), told)
                self.assertIs(is_house(told), True)
                self.assertEqual(HOUSE, before)
        self.assertEqual(joined(HOUSE, (1, 1), A),
                         (2, (A, inner(B, inner(C, A, name="deep")), inner(name="bare"), D)))

    def test_into_empty_houses(self):
        for many in (2, 3):
            house = (many, ())
            self.assertEqual(joined(house, (), PLAIN[many]), (many, (PLAIN[many],)))
            house = joined(house, (), inner(name="top"))
            self.assertEqual(house, (many, (inner(name="top"),)))
            house = joined(house, (0,), inner(name="mid"))
            house = joined(house, (0, 0), inner(name="low"))
            house = joined(house, (0, 0, 0), PLAIN[many])
            house = joined(house, (0,), PLAIN[many])
            told = inner(inner(inner(PLAIN[many], name="low"), name="mid"), PLAIN[many], name="top")
            self.assertEqual(house, (many, (told,)))

    def test_the_same_member_again(self):
        house = (2, ())
        for count in range(1, 13):
            house = joined(house, (), A)
            self.assertEqual(house, (2, (A,) * count))
        self.crowded("ones", house, (), A)

    def test_by_names_and_told_again(self):
        told = joined(member=A, path=(2,), house=HOUSE)
        self.assertEqual(told, joined(HOUSE, (2,), A))
        self.assertIs(type(told), tuple)
        self.assertEqual(joined(told, (2,), B)[1][2], inner(A, B, name="bare"))

    def test_paths_that_lead_to_a_one_or_nowhere(self):
        for member in (A, inner(), inner(A)):
            for path in ONE_PATHS + NUMBERS_LEADING_NOWHERE:
                self.no_place(lambda path: joined(HOUSE, path, member), path)

    def test_of_anything_as_the_path(self):
        for path in NO_PATHS:
            self.no_place(lambda path: joined(HOUSE, path, A), path)
        for many in (2, 3):
            for house in ((many, ()), (many, (PLAIN[many],))):
                for path in wrong_things():
                    if path != ():
                        self.no_place(lambda path: joined(house, path, PLAIN[many]), path)

    def test_the_house_stays_where_refused(self):
        before = copy.deepcopy(HOUSE)
        for path in NO_PATHS + ONE_PATHS:
            self.assertRaises(NoPlace, joined, HOUSE, path, A)
        self.assertEqual(HOUSE, before)


class CrowdedTest(JoiningCase):
    def test_ones(self):
        for many in (2, 3):
            one = PLAIN[many]
            eleven = (many, (inner(one, inner(one)),) + (one,) * 9)
            for path in ((), (0,), (0, 1)):
                twelve = joined(eleven, path, one)
                self.assertIs(is_house(twelve), True)
                for place in ((), (0,), (0, 1)):
                    self.crowded("ones", twelve, place, one)
                    self.crowded("ones", twelve, place, inner(one))
                    self.assertIs(is_house(joined(twelve, place, inner())), True)
                self.crowded("ones", eleven, path, inner(one, one))
            self.assertIs(is_house(joined((many, ()), (), inner(*(one,) * 12))), True)
            self.crowded("ones", (many, ()), (), inner(*(one,) * 13))

    def test_houses(self):
        for many in (2, 3):
            eleven = (many, (inner(inner()),) + (inner(),) * 9)
            for path in ((), (0,), (0, 0), (4,)):
                twelve = joined(eleven, path, inner())
                self.assertIs(is_house(twelve), True)
                for place in ((), (0,), (0, 0), (4,)):
                    self.crowded("houses", twelve, place, inner())
                    self.crowded("houses", twelve, place, inner(PLAIN[many]))
                    self.assertIs(is_house(joined(twelve, place, PLAIN[many])), True)
                self.crowded("houses", eleven, path, inner(inner()))
            self.crowded("houses", (many, ()), (), inner(*(inner(),) * 12))

    def test_deep(self):
        for many in (2, 3):
            house = (many, (chain_of_houses(3, PLAIN[many]),))
            for at in range(4):
                path = (0,) * at
                for deep in range(1, 6):
                    member = chain_of_houses(deep)
                    if at + deep <= 3:
                        self.assertIs(is_house(joined(house, path, member)), True)
                    else:
                        self.crowded("deep", house, path, member)
                self.assertIs(is_house(joined(house, path, PLAIN[many])), True)

    def test_borders(self):
        for many in (2, 3):
            first, second = full(many)
            for house, path in (((many, (first,)), ()), ((many, (inner(first, inner()),)), (0, 1))):
                filled = joined(house, path, second)
                self.assertIs(is_house(filled), True)
                for place in ((), path):
                    self.crowded("borders", filled, place, one_more(many))
                    self.crowded("borders", filled, place, inner(one_more(many)))
                    self.assertIs(is_house(joined(filled, place, PLAIN[many])), True)
            self.crowded("borders", (many, ()), (), inner(first, second, one_more(many)))
        # One doubter alone may have too many: 528 of two signs, 74 of three.
        self.crowded("borders", (2, ()), (), crooked(B264, B264))
        self.crowded("borders", (3, ()), (), crooked(B37, NONE, B37))
        self.assertIs(is_house(joined((2, ()), (), crooked(B37, B37))), True)

    def test_the_first_that_would_be_too_many(self):
        for many in (2, 3):
            house = (many, full_of_all(many))
            ones_more, houses_more = (PLAIN[many],), (inner(),)
            deep_more = (chain_of_houses(4),)
            borders_more = (one_more(many),)
            for members, what in (
                (ones_more, "ones"), (borders_more, "ones"), (houses_more, "houses"), (deep_more, "houses"),
                (ones_more + houses_more, "ones"), (houses_more + ones_more, "ones"), (deep_more + ones_more, "ones"),
                (deep_more + borders_more, "ones"),
            ):
                self.crowded(what, house, (), inner(*members))
            self.crowded("ones", house, (), PLAIN[many])
            self.crowded("ones", house, (0, 1, 0), PLAIN[many])
            self.crowded("houses", house, (0, 1, 0), inner())

    def test_deep_ahead_of_borders_and_behind_houses(self):
        for many in (2, 3):
            first, second = full(many)
            house = (many, (first, second))
            deep = chain_of_houses(4, one_more(many))
            self.crowded("deep", house, (), deep)
            self.crowded("houses", (many, (first, second) + (inner(),) * 9), (), deep)
            self.crowded("deep", (many, (first, second) + (inner(),) * 8), (), deep)
            self.crowded("ones", (many, (first, second) + (PLAIN[many],) * 10 + (inner(),) * 9), (), deep)
            self.crowded("borders", house, (), chain_of_houses(3, one_more(many)))

    def test_no_place_ahead_of_crowded(self):
        for many in (2, 3):
            house = (many, full_of_all(many))
            for member in (PLAIN[many], inner(), chain_of_houses(4), one_more(many)):
                for path in [(10,), (11,), (12,), (-1,), (0, 0), (0, 1, 1), (0, 1, 0, 0)] + NO_PATHS:
                    self.no_place(lambda path: joined(house, path, member), path)

    def test_houses_handed_in_stay(self):
        house = (2, full_of_all(2))
        before = copy.deepcopy(house)
        self.assertRaises(Crowded, joined, house, (0,), A)
        self.assertEqual(house, before)


class LeftTest(JoiningCase):
    def test_each_member(self):
        deep = inner(C, name="deep")
        for path, members, held in (
            ((0,), HOUSE[1][1:], 1),
            ((1,), (A, inner(name="bare"), D), 320),
            ((1, 0), (A, inner(deep), inner(name="bare"), D), 20),
            ((1, 1), (A, inner(B), inner(name="bare"), D), 300),
            ((1, 1, 0), (A, inner(B, inner(name="deep")), inner(name="bare"), D), 300),
            ((2,), (A, inner(B, deep), D), 0),
            ((3,), HOUSE[1][:3], 4000),
        ):
            before = copy.deepcopy(HOUSE)
            told = left(HOUSE, path)
            self.assertEqual(told, ((2, members), held))
            self.assertIs(type(told), tuple)
            self.assertIs(is_house(told[0]), True)
            self.assertEqual(HOUSE, before)
            self.assertEqual(left(HOUSE, path), told)

    def test_motes_alone_go(self):
        one = one_of(doubter_of(3), 7, weight=100, owed=1000, days=10000, got=100000)
        self.assertEqual(left((3, (inner(one, one), one)), (0,)), ((3, (one,)), 14))
        self.assertEqual(left((3, (one,)), (0,)), ((3, ()), 7))

    def test_the_others_move_up(self):
        house = left(HOUSE, (0,))[0]
        self.assertEqual(left(house, (0, 1, 0)), ((2, (inner(B, inner(name="deep")), inner(name="bare"), D)), 300))

    def test_one_of_some_alike(self):
        self.assertEqual(left((2, (A, A, A)), (1,)), ((2, (A, A)), 1))
        self.assertEqual(left((2, (A, B, A)), (2,)), ((2, (A, B)), 1))
        self.assertEqual(left((2, (A, B, A)), (0,)), ((2, (B, A)), 1))

    def test_by_names(self):
        self.assertEqual(left(path=(3,), house=HOUSE), ((2, HOUSE[1][:3]), 4000))

    def test_the_house_itself_and_paths_that_lead_nowhere(self):
        for path in [()] + NUMBERS_LEADING_NOWHERE:
            self.no_place(lambda path: left(HOUSE, path), path)
        for path in ((), (0,), (-1,), (0, 0)):
            self.no_place(lambda path: left((3, ()), path), path)

    def test_of_anything_as_the_path(self):
        for path in NO_PATHS:
            self.no_place(lambda path: left(HOUSE, path), path)
        for many in (2, 3):
            for house in ((many, ()), (many, (PLAIN[many],))):
                for path in wrong_things():
                    self.no_place(lambda path: left(house, path), path)


class ThereAndBackTest(unittest.TestCase):
    def places(self, members, path=()):
        """The paths of the house itself and of all houses in it, with how many members each has."""
        found = [(path, len(members))]
        for number, member in enumerate(members):
            if member[0] == "house":
                found += self.places(member[2], path + (number,))
        return found

    def test_what_joined_leaves_again(self):
        chance = random.Random(14)
        refused = 0
        for k in range(120):
            many = chance.choice((2, 3))
            house = house_by(chance, many)
            for path, count in self.places(house[1]):
                for member in (PLAIN[many], inner(PLAIN[many], inner(PLAIN[many]))):
                    try:
                        larger = joined(house, path, member)
                    except Crowded:
                        refused += 1
                        continue
                    self.assertIs(is_house(larger), True)
                    held = motes((many, (member,)))
                    self.assertEqual(motes(larger), motes(house) + held)
                    self.assertEqual(left(larger, path + (count,)), (house, held))
        self.assertGreater(refused, 0)

    def test_all_ones_leave_one_by_one(self):
        chance = random.Random(15)
        for k in range(60):
            house = house_by(chance, chance.choice((2, 3)))
            while ones(house):
                path, one = chance.choice(ones(house))
                smaller, held = left(house, path)
                self.assertEqual(held, one[4])
                self.assertEqual(motes(smaller), motes(house) - held)
                self.assertEqual(len(ones(smaller)), len(ones(house)) - 1)
                house = smaller
            self.assertEqual(motes(house), 0)


if __name__ == "__main__":
    unittest.main()
