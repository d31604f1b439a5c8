"""Points 2, 3 (c) and 15: answer, none_paper, shows_none."""

import copy
import random
import unittest
from fractions import Fraction

from nonegrowsrich.finding import find
from nonegrowsrich.houses import gain, is_house, pull
from nonegrowsrich.nones import answer, none_paper, shows_none
from tests.anything import nested, spots, with_spot, wrong_in_place_of, wrong_things
from tests.expression_maker import shares_by
from tests.house_maker import (
    NONE, doubter_of, fig, inner, kinky_house_by, one_of, rival_of, small_house_by, stakes_house, stepping_house_by,
)
from tests.slow_find import (
    as_shares, face_points, slow_answers, slow_lines, slow_shows_none, tree_forms,
)

# Sign 0 answers below 500 thousandths, sign 1 from there on; in the second house by 300 and 1:2, sign 2 never.
LEAP = ("where", 0, 500, fig(1), fig(-1))
HALF = stakes_house(LEAP, NONE)
HALF_TREE = ("cut", (1, -1), ("sign", 0), ("sign", 1))
HALF3 = stakes_house(LEAP, NONE, fig(-2))
HALF3_TREE = ("cut", (1, -1, -1), ("sign", 0), ("sign", 1))
SOME = (2, (rival_of(2, (400, 600)),))


def none_houses(count, maker):
    """(seed, house, tree) of so many houses that none suit."""
    found = []
    seed = 0
    while len(found) < count:
        chance = random.Random(seed)
        house = maker(chance, chance.choice((2, 3)))
        tree = none_paper(house) if is_house(house) else None
        if tree is not None:
            found.append((seed, house, tree))
        seed += 1
    return found


class AnswerTest(unittest.TestCase):
    def test_a_sign_alone(self):
        for many in (2, 3):
            for sign in range(many):
                self.assertEqual(answer(("sign", sign), (1,) * many), sign)

    def test_below_at_and_above(self):
        self.assertEqual([answer(HALF_TREE, shares) for shares in ((1, 2), (1, 1), (2, 1), (0, 1), (1, 0))],
                         [0, 1, 1, 0, 1])
        self.assertEqual(answer(("cut", (0, 0), ("sign", 0), ("sign", 1)), (1, 3)), 1)
        self.assertEqual(answer(("cut", (-1, -1, -1), ("sign", 2), ("sign", 1)), (1, 3, 5)), 2)

    def test_cuts_in_cuts(self):
        low = ("cut", (0, 5, -7), ("sign", 2), ("sign", 1))
        tree = ("cut", (3, -2, 0), low, ("cut", (-1, 0, 1), HALF3_TREE, ("sign", 2)))
        for shares, sign in (((1, 2, 3), 2), ((1, 7, 5), 1), ((2, 3, 0), 0), ((4, 3, 0), 1), ((2, 3, 2), 2)):
            self.assertEqual(answer(tree, shares), sign)

    def test_by_names_and_long_numbers(self):
        big = 10 ** 5000
        self.assertEqual(answer(tree=("cut", (big, -big), ("sign", 0), ("sign", 1)), shares=(big, big + 1)), 0)
        self.assertEqual(answer(tree=("cut", (big, -big), ("sign", 0), ("sign", 1)), shares=(big + 1, big)), 1)


class NonePaperTest(unittest.TestCase):
    def answers(self, house, tree, shares):
        sign = answer(tree, shares)
        self.assertEqual(pull(house, shares)[sign], max(pull(house, shares)))
        self.assertGreater(gain(house, shares, sign), 0)
        self.assertTrue(slow_answers(house, [Fraction(x, sum(shares)) for x in shares], sign))

    def test_none_where_some_are_right(self):
        for many in (2, 3):
            self.assertIsNone(none_paper((many, ())))
            self.assertIsNone(none_paper((many, (inner(),))))
            self.assertIsNone(none_paper(stakes_house(*((LEAP,) + (NONE,) * (many - 1)), motes=0)))
        self.assertIsNone(none_paper(SOME))
        self.assertIsNone(none_paper(house=(3, (rival_of(3, (1, 2, 997)),))))

    def test_just_where_find_tells_none(self):
        kinds = set()
        for seed in range(150):
            chance = random.Random(seed)
            house = small_house_by(chance, chance.choice((2, 3)))
            found, tree = find(house), none_paper(house)
            self.assertEqual(found is None, tree is not None)
            self.assertEqual(tree, none_paper(house))
            kinds.add((house[0], tree is None))
        self.assertEqual(len(kinds), 4)

    def test_plain_trees(self):
        for house in (HALF, HALF3):
            tree = none_paper(house)
            for shares in ((1, 1), (1, 2), (2, 1), (0, 1), (1, 0), (499, 501), (10 ** 40, 10 ** 40 + 1)):
                self.answers(house, tree, shares + (0,) * (house[0] - 2))
                self.assertIs(shows_none(house, tree), True)

    def test_at_many_shares_and_at_all_lines(self):
        for seed, house, tree in none_houses(25, small_house_by):
            self.assertIs(shows_none(house, tree), True)
            chance = random.Random(seed)
            for k in range(20):
                self.answers(house, tree, shares_by(chance, house[0]))
            lines = slow_lines(house)
            forms = sorted(set(lines) | tree_forms(tree)) if len(lines) < 8 and len(tree_forms(tree)) < 12 else lines
            for point in face_points(forms, house[0])[:400]:
                self.answers(house, tree, as_shares(point))

    def test_exactly_by_the_slow_reckoner(self):
        seen = 0
        for seed, house, tree in none_houses(25, small_house_by):
            if len(set(slow_lines(house)) | tree_forms(tree)) <= (10 if house[0] == 3 else 30):
                self.assertTrue(slow_shows_none(house, tree))
                seen += 1
        self.assertGreater(seen, 10)

    def test_large_houses(self):
        def maker(chance, many):
            return stepping_house_by(chance, many, 12 if many == 2 else 6)
        for seed, house, tree in none_houses(4, maker):
            self.assertIs(shows_none(house, tree), True)
            for k in range(50):
                self.answers(house, tree, shares_by(random.Random(k), house[0]))

    def test_of_most_borders(self):
        def maker(chance, many):
            return kinky_house_by(chance, many, 60 if many == 3 else 100, 1)
        for seed, house, tree in none_houses(3, maker):
            self.assertIs(shows_none(house, tree), True)

    def test_motes_of_many_figures(self):
        # The jump is far above 0 below the line; from there on sign 1 is ahead by 1 of 10 ** 3000.
        big = 10 ** 3000
        jump = one_of(doubter_of(2, stakes=(("where", 0, 500, fig(1), fig(-1)), NONE)), big)
        back = one_of(doubter_of(2, stakes=(fig(1), NONE)), big - 1)
        house = (2, (jump, back))
        tree = none_paper(house)
        for shares in ((1, 1), (1, 2), (2, 1), (1, 0), (0, 1), (big, big + 1), (big + 1, big)):
            self.answers(house, tree, shares)
        self.assertIs(shows_none(house, tree), True)
        self.assertIsNone(none_paper((2, (jump, back, one_of(doubter_of(2, stakes=(fig(1), NONE)), 1)))))

    def test_of_three_with_long_motes(self):
        big = 10 ** 400
        rivals = [rival_of(3, told, motes) for told, motes in (((100, 200, 700), big), ((600, 300, 100), big + 1))]
        stakes = (("where", 0, 350, fig(1), fig(-1)), fig(0), fig(0))
        house = (3, tuple(rivals) + (one_of(doubter_of(3, stakes=stakes), big),))
        tree = none_paper(house)
        self.assertIsNotNone(tree)
        self.assertIs(shows_none(house, tree), True)
        for k in range(30):
            self.answers(house, tree, shares_by(random.Random(k), 3))


class ShowsNoneTest(unittest.TestCase):
    def shows(self, house, thing, expected):
        before = copy.deepcopy(thing)
        self.assertIs(shows_none(house, thing), expected, thing)
        self.assertEqual(thing, before)

    def test_by_names(self):
        self.assertIs(shows_none(house=HALF, thing=HALF_TREE), True)

    def test_other_trees_that_answer(self):
        for tree in (
            HALF_TREE,
            ("cut", (7, -7), ("sign", 0), ("sign", 1)),
            ("cut", (10 ** 5000, -10 ** 5000), ("sign", 0), ("sign", 1)),
            ("cut", (-1, 1), ("sign", 1), ("cut", (1, -1), ("sign", 0), ("sign", 1))),
            # No shares come to the first of these branches.
            ("cut", (0, 0), ("sign", 0), HALF_TREE),
            ("cut", (1, 1), ("sign", 1), HALF_TREE),
            ("cut", (-1, -1), HALF_TREE, ("sign", 0)),
            ("cut", (1, -1), ("cut", (1, -1), ("sign", 0), ("sign", 1)), ("cut", (1, -1), ("sign", 0), ("sign", 1))),
            ("cut", (5, 0), ("cut", (3, -8), ("sign", 0), ("sign", 0)), HALF_TREE),
        ):
            self.shows(HALF, tree, True)

    def test_trees_that_do_not(self):
        for tree in (
            ("sign", 0), ("sign", 1),
            ("cut", (1, -1), ("sign", 1), ("sign", 0)),
            ("cut", (-1, 1), ("sign", 0), ("sign", 1)),
            # At 1:1 alone they come to sign 0.
            ("cut", (-1, 1), ("sign", 1), ("sign", 0)),
            ("cut", (1000, -999), ("sign", 0), ("sign", 1)),
            ("cut", (999, -1000), ("sign", 0), ("sign", 1)),
            ("cut", (10 ** 60, -10 ** 60 - 1), ("sign", 0), ("sign", 1)),
            ("cut", (0, 0), HALF_TREE, ("sign", 0)),
            ("cut", (-1, 0), HALF_TREE, ("sign", 1)),
        ):
            self.shows(HALF, tree, False)

    def test_of_three(self):
        for tree, expected in (
            (HALF3_TREE, True),
            (("cut", (2, -2, -2), ("sign", 0), ("cut", (0, 0, 1), ("sign", 2), ("sign", 1))), True),
            (("cut", (1, -1, -1), ("sign", 0), ("cut", (0, 0, -1), ("sign", 2), ("sign", 1))), False),
            (("cut", (1, -1, 0), ("sign", 0), ("sign", 1)), False),
            (("cut", (1, -1, -1), ("sign", 0), ("sign", 2)), False),
            # Only where sign 2 has all of it, sign 2 is come to.
            (("cut", (1, -1, -1), ("cut", (-1, -1, 0), ("sign", 0), ("sign", 2)), ("sign", 1)), False),
            (("cut", (1, -1, -1), ("cut", (-1, -1, 0), ("sign", 0), ("sign", 0)), ("sign", 1)), True),
        ):
            self.shows(HALF3, tree, expected)

    def test_the_gain_must_be_above_0(self):
        # All pulls are alike: each sign's is the greatest, and no gain is above 0.
        for many in (2, 3):
            for sign in range(many):
                self.shows((many, ()), ("sign", sign), False)
        # Sign 0 is the greatest everywhere, yet where it has all shares its gain is 0.
        self.shows(stakes_house(fig(1), NONE), ("sign", 0), False)
        self.shows(stakes_house(fig(1), NONE), ("cut", (0, -1), ("sign", 0), ("sign", 1)), False)
        self.shows(stakes_house(fig(1), NONE), ("cut", (0, -1), ("sign", 0), ("sign", 0)), False)

    def test_gains_that_come_near_to_0(self):
        # Sign 0's gain sinks to 0 towards 400 thousandths, and is there no more.
        sinking = ("less", fig(400), ("share", 0))
        tree = ("cut", (3, -2), ("sign", 0), ("sign", 1))
        self.shows(stakes_house(("where", 0, 400, sinking, fig(-1)), NONE), tree, True)
        # It is 0 from 300 thousandths on.
        level = ("most", NONE, ("less", fig(300), ("share", 0)))
        self.shows(stakes_house(("where", 0, 400, level, fig(-1)), NONE), tree, False)
        # It is 0 just at 300 thousandths.
        touching = ("most", ("less", fig(300), ("share", 0)), ("less", ("share", 0), fig(300)))
        self.shows(stakes_house(("where", 0, 400, touching, fig(-1)), NONE), tree, False)
        above = ("sum", touching, fig(1))
        self.shows(stakes_house(("where", 0, 400, above, fig(-1)), NONE), tree, True)

    def test_signs_that_are_alike(self):
        # From 1 thousandth of sign 2 on the first two are alike, and sign 2 is below them by more or less.
        first = ("where", 2, 1, LEAP, NONE)
        below = ("least", fig(-1), ("less", ("share", 0), ("fig", 500)))
        house = stakes_house(first, NONE, below)
        for sign in (0, 1):
            tree = ("cut", (-1, -1, 999), HALF3_TREE, ("sign", sign))
            self.shows(house, tree, True)
        self.shows(house, ("cut", (-1, -1, 999), HALF3_TREE, ("sign", 2)), False)
        self.shows(house, ("cut", (-1, -1, 1000), HALF3_TREE, ("sign", 0)), False)
        self.assertIs(shows_none(house, none_paper(house)), True)

    def test_where_some_are_right(self):
        self.shows(SOME, ("cut", (3, -2), ("sign", 0), ("sign", 1)), False)
        self.shows(SOME, ("cut", (3, -2), ("sign", 0), ("cut", (-3, 2), ("sign", 1), ("sign", 0))), False)
        for seed in range(40):
            chance = random.Random(seed)
            many = chance.choice((2, 3))
            house = small_house_by(chance, many)
            if find(house) is not None:
                for k in range(5):
                    self.shows(house, tree_by(chance, many, 4), False)

    def test_spoilt_trees(self):
        """Signs and halves exchanged, forms turned, moved and multiplied, as the slow reckoner tells."""
        seen = {True: 0, False: 0}
        for seed, house, tree in none_houses(12, small_house_by):
            chance = random.Random(seed)
            many = house[0]
            for other in [tree] + [spoilt(chance, tree, many) for k in range(6)]:
                if len(set(slow_lines(house)) | tree_forms(other)) <= (9 if many == 3 else 20):
                    expected = slow_shows_none(house, other)
                    self.shows(house, other, expected)
                    seen[expected] += 1
        self.assertGreater(min(seen.values()), 15)

    def test_multiplied_forms_and_branches_that_no_shares_come_to(self):
        for seed, house, tree in none_houses(10, small_house_by):
            many = house[0]
            self.shows(house, multiplied(tree, 3), True)
            self.shows(house, multiplied(tree, 10 ** 30), True)
            self.shows(house, ("cut", (0,) * many, ("sign", 0), tree), True)
            self.shows(house, ("cut", (1,) * many, ("cut", (1,) * many, ("sign", 1), ("sign", 0)), tree), True)
            self.shows(house, ("cut", (-1,) * many, tree, ("sign", 0)), True)
            self.shows(house, ("cut", (-1,) * many, tree, ("sign", many)), False)
            self.shows(house, ("cut", (-1,) * many, tree, None), False)
            self.shows(house, ("cut", (-1,) * many, tree, ("cut", (1,) * (many + 1), tree, tree)), False)

    def test_of_anything(self):
        for house in (HALF, HALF3, (2, ()), (3, ()), SOME):
            for thing in wrong_things():
                self.shows(house, thing, False)

    def test_of_anything_within(self):
        for house, tree in ((HALF, HALF_TREE), (HALF3, HALF3_TREE)):
            for path, item in spots(tree):
                for wrong in wrong_in_place_of(item):
                    thing = with_spot(tree, path, wrong)
                    # A long number may stand in a form, and tells just another line.
                    is_tree = wrong == 10 ** 60 and len(path) == 2 and path[0] == 1
                    self.assertIs(shows_none(house, thing), False if not is_tree else slow_shows_none(house, thing))

    def test_shapes(self):
        low, high = ("sign", 0), ("sign", 1)
        for thing in (
            ("cut", (1, -1), low), ("cut", (1, -1), low, high, high), ("cut", (1, -1, 0), low, high),
            ("cut", (1,), low, high), ("cut", (), low, high), ("cut", [1, -1], low, high), ["cut", (1, -1), low, high],
            ("cut", (True, -1), low, high), ("cut", (1, None), low, high), ("cut", (1, "-1"), low, high),
            ("cut", "ab", low, high), ("cut", (1, -1), list(low), high), ("cut", (1, -1), low, list(high)),
            ("cut", (1, -1), ("sign", False), ("sign", True)), ("cut", (1, -1), low, ("sign", 1, 1)),
            ("cut", (1, -1), ("sign",), high), ("cut", (1, -1), ("sign", -2), high), ("cut", (1, -1), low, ("sign", 2)),
            ("cut", (1, -1), ("sign", "0"), high), ("cut", (1, -1), 0, 1), ("cuts", (1, -1), low, high),
            ("cut", (1, -1), low, None), ("sign", 3), ("sign", None), ("sign", ()), ("sign", (0,)), ("sign",), ("cut",),
            ("cut", ((1, -1)), (low,), (high,)), (("cut", (1, -1), low, high),),
        ):
            self.shows(HALF, thing, False)
        self.shows(HALF3, ("cut", (1, -1, -1), ("sign", 0), ("sign", 3)), False)
        self.shows(HALF3, HALF_TREE, False)
        self.shows(HALF, HALF3_TREE, False)

    def test_deep_things(self):
        for make in (
            lambda x: ("cut", (0, 0), ("sign", 0), x), lambda x: ("cut", (1, -1), x, ("sign", 1)),
            lambda x: ("cut", (0, 0), x, HALF_TREE), lambda x: ("cut", x, x, x) if x == 0 else ("cut", x, 0, 0),
            lambda x: ["cut", (1, -1), x, x], lambda x: ("sign", x), lambda x: {"cut": x},
        ):
            self.shows(HALF, nested(make, 29), False)
        deep = HALF_TREE
        for k in range(27):
            deep = ("cut", (0, 0), ("sign", 0), deep)
        self.shows(HALF, deep, True)
        deep = ("sign", 0)
        for k in range(28):
            deep = ("cut", (k + 1, k - 60), deep, ("sign", 1))
        self.assertIn(shows_none(HALF, deep), (True, False))
        broad = HALF_TREE
        for k in range(9):
            broad = ("cut", (k, 1 - k), broad, broad)
        self.shows(HALF, broad, True)

    def test_told_trees_far_deeper(self):
        deep = HALF_TREE
        for k in range(3000):
            deep = ("cut", (1, 1), ("sign", 0), deep)
        self.assertIs(shows_none(HALF, deep), True)
        self.assertEqual(answer(deep, (1, 3)), 0)


def tree_by(chance, many, deep):
    """A tree by chance."""
    if deep == 0 or chance.random() < 0.2:
        return ("sign", chance.randrange(many))
    form = tuple(chance.randint(-9, 9) for sign in range(many))
    return ("cut", form, tree_by(chance, many, deep - 1), tree_by(chance, many, deep - 1))


def multiplied(tree, factor):
    """The tree, its forms times the factor."""
    if tree[0] == "sign":
        return tree
    word, form, low, high = tree
    return (word, tuple(factor * number for number in form), multiplied(low, factor), multiplied(high, factor))


def spoilt(chance, tree, many):
    """The tree, something in it exchanged at one place."""
    knots = [path for path, item in spots(tree) if isinstance(item, tuple) and item and item[0] in ("sign", "cut")]
    path = chance.choice(knots)
    knot = tree
    for number in path:
        knot = knot[number]
    if knot[0] == "sign":
        return with_spot(tree, path, ("sign", (knot[1] + 1) % many))
    word, form, low, high = knot
    return with_spot(tree, path, chance.choice((
        (word, form, high, low),
        (word, tuple(-number for number in form), high, low),
        (word, form[1:] + form[:1], low, high),
        (word, (form[0] + 1,) + form[1:], low, high),
        (word, tuple(2 * number for number in form), low, high),
        (word, form, ("cut", form, low, ("sign", 0)), high),
        low, high,
    )))


if __name__ == "__main__":
    unittest.main()
