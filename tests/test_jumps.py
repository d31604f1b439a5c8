"""Points 2 and 8: jump, is_even, shows_jump."""

import copy
import random
import unittest

from nonegrowsrich.expressions import is_expression, worth
from nonegrowsrich.jumps import is_even, jump, jump_shares, shows_jump
from nonegrowsrich.shares import is_shares, lowest
from tests.anything import wrong_things
from tests.expression_maker import expression_by, registers_by
from tests.slow import slow_jump_points, slow_wheres

ZERO = (0, 0, 0, 0)
NONE, ONE, TWO = ("fig", 0), ("fig", 1), ("fig", 2)
X, Y, Z = ("share", 0), ("share", 1), ("share", 2)


def figs(number):
    return ("fig", number)


class JumpsCase(unittest.TestCase):
    def jumps(self, expression, many, registers=ZERO):
        """Checks all that is told of an expression that jumps; tells the pair."""
        self.assertIs(is_expression(expression, many), True)
        told = jump(expression, registers, many)
        self.assertIsInstance(told, tuple)
        number, shares = told
        self.assertIs(is_shares(shares, many), True)
        where, met = slow_wheres(expression, registers)[number]
        self.assertTrue(met)
        word, sign, line, first, second = where
        self.assertEqual(1000 * shares[sign], line * sum(shares))
        self.assertNotEqual(worth(first, registers, shares), worth(second, registers, shares))
        self.assertIs(shows_jump(expression, registers, many, told), True)
        self.assertIs(is_even(expression, registers, many), False)
        self.assertEqual(jump(expression, registers, many), told)
        return told

    def even(self, expression, many, registers=ZERO):
        self.assertIs(is_expression(expression, many), True)
        self.assertIsNone(jump(expression, registers, many))
        self.assertIs(is_even(expression, registers, many), True)


class TwoSignsTest(JumpsCase):
    def test_without_where_words(self):
        for expression in (ONE, X, ("reg", 2), ("most", X, ("times", -9, Y)), ("when", 0, 0, X, ONE)):
            self.even(expression, 2)

    def test_unlike_and_alike_on_the_line(self):
        self.assertEqual(self.jumps(("where", 0, 250, NONE, X), 2), (0, (1, 3)))
        self.assertEqual(self.jumps(("where", 1, 250, NONE, X), 2), (0, (3, 1)))
        self.even(("where", 0, 250, figs(250), X), 2)
        self.even(("where", 1, 250, figs(750), X), 2)
        self.even(("where", 0, 333, ("sum", X, Y), figs(1000)), 2)
        self.jumps(("where", 0, 250, figs(251), X), 2)

    def test_lines_at_the_ends(self):
        self.assertEqual(self.jumps(("where", 0, 1000, NONE, X), 2), (0, (1, 0)))
        self.assertEqual(self.jumps(("where", 1, 1000, NONE, Y), 2), (0, (0, 1)))
        self.even(("where", 0, 1000, NONE, Y), 2)
        self.even(("where", 1, 1000, NONE, X), 2)
        self.assertEqual(self.jumps(("where", 0, 1, NONE, X), 2), (0, (1, 999)))

    def test_where_words_on_one_line(self):
        # At 500 the inner one of the first is at its B, so the outer one does not jump.
        self.assertEqual(self.jumps(("where", 0, 500, ONE, ("where", 0, 400, TWO, ONE)), 2), (1, (2, 3)))
        self.assertEqual(self.jumps(("where", 0, 500, ONE, ("where", 0, 500, ONE, TWO)), 2)[1], (1, 1))
        self.assertEqual(self.jumps(("where", 0, 500, ONE, ("where", 0, 500, TWO, ONE)), 2), (1, (1, 1)))

    def test_the_registers_count(self):
        expression = ("where", 0, 250, ("reg", 1), ("by", 2, X))
        self.even(expression, 2, (0, 250, 1, 0))
        self.even(expression, 2, (9, -250, -1, 9))
        self.even(expression, 2, (9, 0, 0, 9))
        self.jumps(expression, 2, (0, 249, 1, 0))
        self.jumps(expression, 2, (0, 250, 0, 0))


class MetTest(JumpsCase):
    where = ("where", 0, 500, NONE, ONE)

    def test_whens_around(self):
        for registers, ahead in (((-1, 0, 0, 0), True), (ZERO, False), ((1, 0, 0, 0), False)):
            first, second = ("when", 0, 0, self.where, ONE), ("when", 0, 0, ONE, self.where)
            for many in (2, 3):
                (self.jumps if ahead else self.even)(first, many, registers)
                (self.even if ahead else self.jumps)(second, many, registers)

    def test_all_whens_around_lead_to_it(self):
        expression = ("when", 0, 5, ("sum", ONE, ("when", 1, -5, NONE, ("times", 3, self.where))), TWO)
        self.jumps(expression, 2, (4, -5, 0, 0))
        self.even(expression, 2, (5, -5, 0, 0))
        self.even(expression, 2, (4, -6, 0, 0))
        self.even(expression, 2, (5, -6, 0, 0))

    def test_numbers_count_those_not_met_too(self):
        expression = ("when", 0, 0, self.where, ("sum", self.where, self.where))
        self.assertEqual(self.jumps(expression, 2, (-1, 0, 0, 0))[0], 0)
        self.assertIn(self.jumps(expression, 2)[0], (1, 2))
        pairs = [(number, (1, 1)) for number in range(4)]
        told = [shows_jump(expression, (-1, 0, 0, 0), 2, pair) for pair in pairs]
        self.assertEqual(told, [True, False, False, False])
        told = [shows_jump(expression, ZERO, 2, pair) for pair in pairs]
        self.assertEqual(told, [False, True, True, False])

    def test_whens_inside_a_where_word(self):
        expression = ("where", 0, 500, NONE, ("when", 3, 7, NONE, ("where", 1, 500, NONE, ONE)))
        self.even(expression, 2, (0, 0, 0, 6))
        self.assertIn(self.jumps(expression, 2, (0, 0, 0, 7))[0], (0, 1))

    def test_whens_with_parts_written_alike(self):
        expression = ("when", 0, 0, self.where, self.where)
        self.assertEqual(self.jumps(expression, 2, (-1, 0, 0, 0)), (0, (1, 1)))
        self.assertEqual(self.jumps(expression, 2, ZERO), (1, (1, 1)))
        self.assertIs(shows_jump(expression, ZERO, 2, (0, (1, 1))), False)

    def test_a_where_word_does_not_lead(self):
        # The inner one's line lies where the outer one never leads to it; it is met all the same.
        inner = ("where", 0, 700, NONE, ONE)
        for many in (2, 3):
            self.assertEqual(self.jumps(("where", 0, 500, inner, NONE), many)[0], 1)

    def test_times_nothing_and_by_nothing(self):
        for many in (2, 3):
            self.jumps(("times", 0, self.where), many)
            self.jumps(("by", 0, self.where), many)
            self.jumps(("sum", ONE, ("times", 0, ("less", self.where, self.where))), many)

    def test_hidden_by_least(self):
        for many in (2, 3):
            self.jumps(("least", ("fig", -5), self.where), many)

    def test_inside_times_nothing_counts_for_the_outer_one(self):
        inner = ("times", 0, ("sum", X, ONE))
        for many in (2, 3):
            self.even(("where", 0, 500, NONE, inner), many)

    def test_numbered_as_they_stand(self):
        # Each where word jumps on its own line alone, so that shares tell the number.
        def where(line, first, second):
            return ("where", 0, line, first, second)

        tree = ("sum", where(100, where(200, NONE, ONE), where(300, NONE, ONE)),
                ("most", ("times", 2, where(400, ONE, where(500, NONE, ONE))),
                 ("when", 0, 0, where(600, NONE, ONE), where(700, NONE, ONE))))
        lines = [100, 200, 300, 400, 500, 600, 700]
        jumping = {200: 1, 300: 2, 400: 3, 500: 4}
        for registers, met in ((ZERO, {**jumping, 700: 6}), ((-1, 0, 0, 0), {**jumping, 600: 5})):
            for line in lines:
                shares = lowest((line, 1000 - line))
                told = [number for number in range(-1, 9) if shows_jump(tree, registers, 2, (number, shares))]
                self.assertEqual(told, [met[line]] if line in met else [], line)


class ThreeSignsTest(JumpsCase):
    def outer_jump(self, where):
        """Shares at which the outer where word itself jumps; those in it may jump, too."""
        self.jumps(where, 3)
        shares = jump_shares(where, ZERO, 3)
        self.assertIs(shows_jump(where, ZERO, 3, (0, shares)), True)
        return shares

    def test_alike_all_along(self):
        self.even(("where", 0, 250, figs(250), X), 3)
        self.even(("where", 0, 250, ("sum", Y, Z), figs(750)), 3)
        self.even(("where", 2, 400, ("sum", X, Y), ("less", figs(1000), Z)), 3)
        self.even(("where", 1, 500, ("least", X, Z), ("less", figs(500), ("most", X, Z))), 3)
        self.even(("where", 0, 500, NONE, ("sum", ("least", NONE, Y), ("most", NONE, ("times", -1, Z)))), 3)

    def test_unlike_all_along(self):
        self.jumps(("where", 0, 250, NONE, ONE), 3)
        self.jumps(("where", 0, 250, ("sum", Y, Z), figs(751)), 3)
        self.jumps(("where", 1, 999, Y, figs(998)), 3)

    def test_unlike_but_at_one_point(self):
        for c in (0, 1, 375, 749, 750):
            self.jumps(("where", 0, 250, Y, figs(c)), 3)
        # Alike at the middle and at both ends alone.
        bow = ("most", ("less", figs(375), Y), ("less", Y, figs(375)))
        self.jumps(("where", 0, 250, NONE, ("least", bow, ("less", figs(375), bow))), 3)

    def test_unlike_at_one_end_alone(self):
        for expression, shares in (
            (("where", 0, 250, NONE, ("where", 1, 750, NONE, ONE)), (1, 3, 0)),
            (("where", 0, 250, NONE, ("where", 2, 750, NONE, ONE)), (1, 0, 3)),
            (("where", 0, 250, ("where", 1, 1, ("where", 2, 750, ONE, TWO), ONE), ONE), (1, 0, 3)),
            (("where", 1, 600, ("where", 0, 400, TWO, X), TWO), (2, 3, 0)),
        ):
            self.assertEqual(self.outer_jump(expression), shares)
            self.assertIs(shows_jump(expression, ZERO, 3, (0, tuple(reversed(shares)))), False)

    def test_unlike_on_a_small_stretch(self):
        # 1000 times the share of sign 1 is from 300 to less than 301, of 750.
        slot = ("where", 1, 300, NONE, ("where", 1, 301, ONE, NONE))
        shares = self.outer_jump(("where", 0, 250, NONE, slot))
        self.assertTrue(300 * sum(shares) <= 1000 * shares[1] < 301 * sum(shares))

    def test_unlike_on_a_small_stretch_between_bends(self):
        # A peak of 1 at 300 with a foot from 299 to 301, by 1000 times sign 1's share.
        far = ("most", ("less", Y, figs(300)), ("less", figs(300), Y))
        peak = ("most", NONE, ("less", ONE, far))
        shares = self.outer_jump(("where", 0, 250, NONE, peak))
        self.assertTrue(299 * sum(shares) < 1000 * shares[1] < 301 * sum(shares))
        # The peak a thousand times as narrow, beside no whole thousandth.
        narrow = ("less", ("times", 3, Y), ONE)
        far = ("most", ("by", 0, narrow), ("by", 1, narrow))
        registers = (1000, -1000, 0, 0)
        number, shares = self.jumps(("where", 0, 250, NONE, ("most", NONE, ("less", ONE, far))), 3, registers)
        self.assertTrue(abs(3000 * shares[1] - sum(shares)) * 1000 < sum(shares))
        self.even(("where", 0, 250, NONE, ("most", NONE, ("less", NONE, far))), 3, registers)

    def test_unlike_at_one_point_alone(self):
        # From 300 on of sign 1 and from 450 on of sign 2 there is but one point on the line.
        spot = ("where", 1, 300, NONE, ("where", 2, 450, NONE, ONE))
        expression = ("where", 0, 250, NONE, spot)
        self.assertIs(shows_jump(expression, ZERO, 3, (0, (5, 6, 9))), True)
        for shares in ((250, 299, 451), (250, 301, 449), (1, 3, 0), (1, 0, 3), (2500, 3001, 4499)):
            self.assertIs(shows_jump(expression, ZERO, 3, (0, shares)), False)
        self.assertEqual(self.outer_jump(expression), (5, 6, 9))
        for line in (449, 450, 451):
            both = ("least", ("where", 1, 300, NONE, ONE), ("where", 2, line, NONE, ONE))
            shares = jump_shares(("where", 0, 250, NONE, both), ZERO, 3)
            self.assertEqual(shares is None, line == 451)
            if line == 450:
                self.assertEqual(shares, (5, 6, 9))

    def test_at_one_point_between_bends_alone(self):
        # All is sign 1's share, but at the point from which on sign 2's share is less than 450.
        bent = ("where", 1, 300, Y, ("most", ("where", 2, 450, Y, figs(500)), Y))
        self.assertEqual(self.outer_jump(("where", 0, 250, Y, bent)), (5, 6, 9))

    def test_alike_at_the_ends_and_at_one_point_between(self):
        # 0 at both ends of the line; between them a straight line through 0, at halves, thirds and quarters.
        for times, figure in ((2, 500), (3, 500), (3, 1000), (4, 500), (8, 500), (9, 1)):
            straight = ("less", ("times", times, Y), figs(figure))
            inside = ("where", 1, 500, ("where", 2, 500, straight, NONE), NONE)
            shares = self.outer_jump(("where", 0, 500, NONE, inside))
            self.assertNotIn(0, shares)

    def test_lines_at_the_ends(self):
        for sign, shares in ((0, (1, 0, 0)), (1, (0, 1, 0)), (2, (0, 0, 1))):
            self.assertEqual(self.jumps(("where", sign, 1000, NONE, ONE), 3), (0, shares))
            self.even(("where", sign, 1000, figs(1000), ("share", sign)), 3)
            for other in range(3):
                if other != sign:
                    self.even(("where", sign, 1000, NONE, ("share", other)), 3)
        self.even(("where", 0, 1000, ("least", Y, Z), ("times", 9, Y)), 3)

    def test_one_in_another_on_the_same_line(self):
        # On its own line a where word is at its B, all along.
        self.assertEqual(self.jumps(("where", 0, 250, Y, ("where", 0, 250, Z, Y)), 3)[0], 1)
        self.assertEqual(self.jumps(("where", 0, 250, Z, ("where", 0, 250, Z, Y)), 3)[0], 0)
        self.assertEqual(self.jumps(("where", 0, 250, Y, ("where", 0, 251, Y, Z)), 3)[0], 1)
        self.assertEqual(self.jumps(("where", 0, 250, Z, ("where", 0, 249, Y, Z)), 3)[0], 1)

    def test_even_ones_in_one_another(self):
        # Both arms meet on each line, so there is no jump though there are bends.
        tent = ("where", 0, 300, X, ("less", figs(600), X))
        self.even(tent, 3)
        self.even(("where", 1, 400, tent, ("sum", tent, ("less", Y, figs(400)))), 3)
        self.jumps(("where", 1, 400, tent, ("sum", tent, ("less", Y, figs(401)))), 3)

    def test_great_numbers(self):
        deep = ("by", 0, ("by", 0, ("by", 0, ("times", 9, Y))))
        registers = (1000, 0, 0, 0)
        self.jumps(("where", 0, 250, ("most", NONE, ("less", deep, ONE)), deep), 3, registers)
        self.even(("where", 0, 250, ("sum", deep, NONE), deep), 3, registers)


class ShowsJumpTest(JumpsCase):
    expression = ("sum", ("where", 0, 250, NONE, Y), ("where", 1, 500, X, X))

    def shows(self, thing, many=3):
        before = copy.deepcopy(thing)
        told = shows_jump(self.expression, ZERO, many, thing)
        self.assertEqual(thing, before)
        self.assertIn(told, (True, False))
        return told is True

    def test_all_that_jump(self):
        great = 10 ** 40
        for shares in ((1, 3, 0), (1, 1, 2), (10, 1, 29), (250, 1, 749), lowest((great, 1, 3 * great - 1))):
            self.assertTrue(self.shows((0, shares)))
            self.assertFalse(self.shows((1, shares)))
        self.assertTrue(self.shows((0, (1, 3)), 2))

    def test_shares_off_the_line_or_alike_there(self):
        great = 10 ** 40
        for shares in ((1, 0, 3), (1, 1, 1), (0, 1, 0), (1, 2, 0), (great, 3 * great + 1, 0), (great + 1, 3 * great, 0)):
            self.assertFalse(self.shows((0, shares)))

    def test_numbers_that_are_none(self):
        for number in (-1, -2, 1, 2, 3, 10 ** 30, -10 ** 30, True, False, None, "0", (0,), [0], {}, ()):
            self.assertFalse(self.shows((number, (1, 3, 0))))

    def test_shares_that_are_none(self):
        for shares in (
            (2, 6, 0), (1, 3), (1, 3, 0, 0), [1, 3, 0], (True, 3, 0), (1, 3, False), (1, 3, None), (0, 0, 0), None,
            (-1, -3, 0), "1:3:0", {0: 1, 1: 3, 2: 0}, (1, (3,), 0), ((1, 3, 0),), 1, (), ("1", "3", "0"),
        ):
            self.assertFalse(self.shows((0, shares)))
        self.assertFalse(self.shows((0, (1, 3, 0)), 2))
        self.assertFalse(self.shows((0, (1, 3)), 3))

    def test_pairs_that_are_none(self):
        for thing in (
            None, (0,), ((1, 3, 0),), (0, (1, 3, 0), 0), [0, (1, 3, 0)], {0: (1, 3, 0)}, ((1, 3, 0), 0), (0, 1, 3, 0),
            ((0, (1, 3, 0)),), "0",
        ):
            self.assertFalse(self.shows(thing))

    def test_of_anything(self):
        for many in (2, 3):
            for thing in wrong_things():
                self.assertFalse(self.shows(thing, many))
                self.assertFalse(self.shows((0, thing), many))
                self.assertFalse(self.shows((thing, (1, 3, 0)[:many]), many) and thing != 0)

    def test_none_where_it_is_even(self):
        even = ("where", 0, 250, figs(250), X)
        self.even(even, 3)
        for shares in ((1, 3, 0), (1, 0, 3), (1, 1, 2)):
            self.assertIs(shows_jump(even, ZERO, 3, (0, shares)), False)
        self.assertIs(shows_jump(ONE, ZERO, 3, (0, (1, 3, 0))), False)

    def test_by_names(self):
        where = ("where", 0, 500, NONE, ONE)
        self.assertEqual(jump(many=2, registers=ZERO, expression=where), (0, (1, 1)))
        self.assertIs(is_even(many=2, registers=ZERO, expression=where), False)
        self.assertIs(shows_jump(thing=(0, (1, 1)), many=2, registers=ZERO, expression=where), True)


class AgainstTheSlowReckonerTest(JumpsCase):
    def weigh(self, expression, registers, many):
        wheres = slow_wheres(expression, registers)
        jumping = [number for number, (where, met) in enumerate(wheres)
                   if met and slow_jump_points(where, registers, many)]
        if not jumping:
            self.even(expression, many, registers)
        else:
            self.assertIn(self.jumps(expression, many, registers)[0], jumping)
        return bool(jumping)

    def test_many_expressions(self):
        chance = random.Random(11)
        told = [0, 0]
        for k in range(1500):
            many = chance.choice((2, 3))
            expression = expression_by(chance, many, chance.choice((5, 9, 14)), 8)
            told[self.weigh(expression, registers_by(chance), many)] += 1
        self.assertGreater(min(told), 100)

    def test_where_words_over_parts_alike_almost_everywhere(self):
        chance = random.Random(12)
        told = [0, 0]
        bends = ("least", "most", "sum", "less", "times")
        for k in range(600):
            part = expression_by(chance, 3, 7, 5, bends)
            small = ("most", NONE, expression_by(chance, 3, 5, 4, bends))
            line = chance.choice((1, 250, 500, 900, 999, 1000))
            expression = ("where", chance.randrange(3), line, part, ("sum", part, small))
            told[self.weigh(expression, registers_by(chance), 3)] += 1
        self.assertGreater(min(told), 50)


class GreatestTest(JumpsCase):
    def test_expressions_of_forty(self):
        chance = random.Random(13)
        bends = ("least", "most", "where", "sum")
        for k in range(60):
            expression = expression_by(chance, 3, 37, 7, bends)
            whole = ("where", 0, 250, expression, NONE)
            if is_expression(whole, 3):
                told = jump(whole, ZERO, 3)
                self.assertTrue(told is None or shows_jump(whole, ZERO, 3, told))


if __name__ == "__main__":
    unittest.main()
