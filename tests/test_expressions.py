"""Points 2, 5, 6 and 7: is_expression, worth, span, leaves, borders."""

import copy
import random
import unittest
from fractions import Fraction

from nonegrowsrich.expressions import borders, is_expression, leaves, span, worth
from tests.anything import broad, chain, nested, wrong_things
from tests.expression_maker import expression_by, registers_by, shares_by
from tests.slow import slow_worth

F = ("fig", 1)
G = ("fig", -5)
EACH_WORD = [
    ("fig", 0), ("reg", 0), ("share", 0), ("sum", F, G), ("less", F, G), ("times", 3, F), ("by", 1, F),
    ("least", F, G), ("most", F, G), ("when", 2, 7, F, G), ("where", 1, 7, F, G),
]
AT = (10, -20, 1000, -1000)


def with_item(thing, at, item):
    return thing[:at] + (item,) + thing[at + 1:]


class IsExpressionTest(unittest.TestCase):
    def takes(self, thing, many=2):
        self.assertIs(is_expression(thing, many), True, thing)

    def refuses(self, thing, many=2):
        before = copy.deepcopy(thing)
        self.assertIs(is_expression(thing, many), False)
        self.assertEqual(thing, before)

    def test_each_word(self):
        for thing in EACH_WORD:
            self.takes(thing, 2)
            self.takes(thing, 3)

    def test_bounds_of_numbers(self):
        for make, low, high in (
            (lambda c: ("fig", c), -1000, 1000),
            (lambda i: ("reg", i), 0, 3),
            (lambda f: ("times", f, F), -9, 9),
            (lambda i: ("by", i, F), 0, 3),
            (lambda i: ("when", i, 0, F, G), 0, 3),
            (lambda c: ("when", 0, c, F, G), -1000, 1000),
            (lambda c: ("where", 0, c, F, G), 1, 1000),
        ):
            for many in (2, 3):
                for number in (low, low + 1, (low + high) // 2, high - 1, high):
                    self.takes(make(number), many)
                for number in (low - 1, high + 1, low - 10 ** 30, high + 10 ** 30):
                    self.refuses(make(number), many)

    def test_signs_by_many(self):
        for make in (lambda j: ("share", j), lambda j: ("where", j, 5, F, G)):
            for many in (2, 3):
                for sign in range(many):
                    self.takes(make(sign), many)
                for sign in (-1, many, many + 1):
                    self.refuses(make(sign), many)

    def test_signs_inside(self):
        self.refuses(("sum", F, ("times", 2, ("share", 2))), 2)
        self.takes(("sum", F, ("times", 2, ("share", 2))), 3)

    def test_items_of_other_kinds(self):
        wrong = [None, True, False, "1", "", (), [], {}, (1,), [1], {1: 1}, F + (1,), [*F], ("fig",), ("no", 1)]
        for thing in EACH_WORD:
            for at in range(len(thing)):
                for item in wrong:
                    self.refuses(with_item(thing, at, item), 2)
                    self.refuses(with_item(thing, at, item), 3)

    def test_numbers_and_expressions_in_each_others_place(self):
        for thing in EACH_WORD:
            for at in range(1, len(thing)):
                self.refuses(with_item(thing, at, 1 if isinstance(thing[at], tuple) else F))

    def test_an_item_more_or_fewer(self):
        for thing in EACH_WORD:
            self.refuses(thing[:-1])
            self.refuses(thing[:1])
            for item in (1, F, None):
                self.refuses(thing + (item,))

    def test_lists_in_the_place_of_tuples(self):
        for thing in EACH_WORD:
            self.refuses(list(thing))
            self.refuses([thing])
            self.refuses((thing,))
        self.refuses(("sum", F, ["fig", 1]))

    def test_words_that_are_none(self):
        for word in ("", "Fig", "fig ", "figs", "add", "put", "told", "doubter"):
            self.refuses((word, 1))
            self.refuses((word, F, G))

    def test_how_many(self):
        for count in range(1, 41):
            self.takes(broad(count))
        for count in (41, 42, 50, 63):
            self.refuses(broad(count))

    def test_parts_written_alike_all_count(self):
        shared = broad(19)
        self.takes(("sum", shared, broad(20)))
        self.refuses(("sum", shared, ("sum", shared, F)))

    def test_how_deep(self):
        for deep in range(1, 9):
            self.takes(chain(deep))
        for deep in (9, 10, 29):
            self.refuses(chain(deep))

    def test_how_deep_in_each_part(self):
        inner, over = chain(7), chain(8)
        for make in (
            lambda x: ("sum", x, F), lambda x: ("sum", F, x), lambda x: ("less", F, x), lambda x: ("by", 0, x),
            lambda x: ("least", x, F), lambda x: ("most", F, x), lambda x: ("when", 0, 0, x, F),
            lambda x: ("when", 0, 0, F, x), lambda x: ("where", 0, 1, x, F), lambda x: ("where", 0, 1, F, x),
        ):
            self.takes(make(inner))
            self.refuses(make(over))

    def test_great_things(self):
        self.refuses(nested(lambda x: ("sum", x, x), 13))
        self.refuses(nested(lambda x: ("sum", [x], {"a": x}), 12))
        # Told without looking into all of it: one tuple over and over, thirty deep.
        self.assertIs(is_expression(nested(lambda x: ("least", x, x), 30), 2), False)

    def test_of_anything(self):
        for thing in wrong_things():
            self.refuses(thing, 2)
            self.refuses(thing, 3)

    def test_by_names(self):
        self.assertIs(is_expression(many=3, thing=("share", 2)), True)


class WorthTest(unittest.TestCase):
    def test_fig(self):
        self.assertEqual(worth(("fig", 7), AT, (2, 3)), 35)
        self.assertEqual(worth(("fig", -1000), AT, (1, 1, 1)), -3000)

    def test_reg(self):
        self.assertEqual([worth(("reg", i), AT, (2, 3)) for i in range(4)], [50, -100, 5000, -5000])

    def test_share(self):
        self.assertEqual([worth(("share", j), AT, (2, 0, 3)) for j in range(3)], [2000, 0, 3000])

    def test_sum_and_less(self):
        self.assertEqual(worth(("sum", ("share", 0), ("fig", 4)), AT, (2, 3)), 2020)
        self.assertEqual(worth(("less", ("share", 0), ("fig", 4)), AT, (2, 3)), 1980)
        self.assertEqual(worth(("less", ("fig", 4), ("share", 0)), AT, (2, 3)), -1980)

    def test_times_and_by(self):
        self.assertEqual(worth(("times", -9, ("share", 1)), AT, (2, 3)), -27000)
        self.assertEqual(worth(("times", 0, ("share", 1)), AT, (2, 3)), 0)
        self.assertEqual([worth(("by", i, ("fig", 3)), AT, (1, 1)) for i in range(4)], [60, -120, 6000, -6000])
        self.assertEqual(worth(("by", 2, ("by", 3, ("reg", 2))), AT, (1, 0)), -10 ** 9)

    def test_least_and_most(self):
        for first, second in ((F, G), (G, F)):
            self.assertEqual(worth(("least", first, second), AT, (1, 1)), -10)
            self.assertEqual(worth(("most", first, second), AT, (1, 1)), 2)
        for shares, low, high in (((1, 2), 1000, 2000), ((2, 1), 1000, 2000), ((1, 1), 1000, 1000)):
            self.assertEqual(worth(("least", ("share", 0), ("share", 1)), AT, shares), low)
            self.assertEqual(worth(("most", ("share", 0), ("share", 1)), AT, shares), high)

    def test_when_at_its_figure_and_beside_it(self):
        for figure in (-1000, -999, -1, 0, 1, 250, 999, 1000):
            for value in (figure - 1, figure, figure + 1, -1000, 1000):
                if -1000 <= value <= 1000:
                    for place in range(4):
                        registers = (0,) * place + (value,) + (0,) * (3 - place)
                        told = worth(("when", place, figure, ("fig", 1), ("fig", 2)), registers, (1, 0))
                        self.assertEqual(told, 1 if value < figure else 2)

    def test_where_on_its_line_and_on_either_side(self):
        great = 10 ** 50
        for sign in (0, 1):
            for shares, told in (
                ((1, 3), 2), ((great - 1, 3 * great + 1), 1), ((great + 1, 3 * great - 1), 2), ((0, 1), 1), ((1, 0), 2),
                ((249, 751), 1), ((251, 749), 2),
            ):
                shares = shares if sign == 0 else shares[::-1]
                by_one = worth(("where", sign, 250, ("fig", 1), ("fig", 2)), AT, shares)
                self.assertEqual(by_one, told * sum(shares))

    def test_where_of_three_signs_and_at_the_ends(self):
        where = ("where", 2, 1000, ("share", 2), ("fig", 2))
        self.assertEqual(worth(where, AT, (0, 0, 1)), 2)
        self.assertEqual(worth(where, AT, (1, 0, 999)), 999000)
        where = ("where", 1, 1, ("fig", 1), ("fig", 2))
        self.assertEqual(worth(where, AT, (500, 1, 499)), 2000)
        self.assertEqual(worth(where, AT, (501, 1, 499)), 1001)
        self.assertEqual(worth(where, AT, (1, 0, 0)), 1)

    def test_all_along_with_a_slow_reckoner(self):
        chance = random.Random(5)
        for k in range(400):
            many = chance.choice((2, 3))
            expression = expression_by(chance, many, 30, 8)
            registers, shares = registers_by(chance), shares_by(chance, many)
            self.assertIs(is_expression(expression, many), True)
            told = worth(expression, registers, shares)
            point = [Fraction(number, sum(shares)) for number in shares]
            self.assertEqual(told, sum(shares) * slow_worth(expression, registers, point))
            low, high = span(expression)
            self.assertTrue(low * sum(shares) <= told <= high * sum(shares))
            # By the shares alone: common parts change nothing but n.
            self.assertEqual(worth(expression, registers, tuple(6 * s for s in shares)), 6 * told)

    def test_by_names_and_told_again(self):
        self.assertEqual(worth(shares=(2, 3), expression=("reg", 0), registers=AT), 50)
        self.assertEqual(worth(broad(40), AT, (2, 3)), worth(broad(40), AT, (2, 3)))


class SpanTest(unittest.TestCase):
    def test_each_word(self):
        share, less = ("share", 0), ("less", ("fig", -3), ("share", 1))
        for expression, told in (
            (("fig", 7), (7, 7)), (("fig", -7), (-7, -7)), (("reg", 3), (-1000, 1000)), (share, (0, 1000)),
            (less, (-1003, -3)), (("sum", share, less), (-1003, 997)), (("less", share, less), (3, 2003)),
            (("times", 3, less), (-3009, -9)), (("times", -3, less), (9, 3009)), (("times", 0, less), (0, 0)),
            (("times", -9, share), (-9000, 0)), (("by", 0, less), (-1003000, 1003000)),
            (("by", 1, share), (-10 ** 6, 10 ** 6)), (("by", 2, ("fig", -5)), (-5000, 5000)),
            (("by", 2, ("fig", 0)), (0, 0)), (("least", share, less), (-1003, -3)), (("most", share, less), (0, 1000)),
            (("least", share, ("fig", 400)), (0, 400)), (("most", share, ("fig", 400)), (400, 1000)),
            (("when", 0, 5, share, less), (-1003, 1000)), (("where", 0, 5, less, share), (-1003, 1000)),
            (("when", 0, 5, ("fig", 2), ("reg", 0)), (-1000, 1000)), (("where", 1, 5, ("fig", 2), F), (1, 2)),
        ):
            self.assertEqual(span(expression), told, expression)
            self.assertIsInstance(span(expression), tuple)

    def test_by_name(self):
        self.assertEqual(span(expression=("fig", 4)), (4, 4))

    def test_in_one_another(self):
        self.assertEqual(span(("times", -2, ("sum", ("by", 0, ("times", -9, ("reg", 1))), ("fig", 1)))),
                         (-18000002, 17999998))


class LeavesAndBordersTest(unittest.TestCase):
    two = ("least", ("share", 0), ("share", 1))
    three = ("where", 0, 5, ("most", ("share", 0), ("fig", 3)), ("reg", 1))

    def test_each_word(self):
        two, three = self.two, self.three
        for expression, many_leaves, many_borders in (
            (("fig", 9), 1, 0), (("reg", 0), 1, 0), (("share", 1), 1, 0), (two, 2, 1), (three, 3, 2),
            (("sum", two, three), 6, 3), (("less", three, two), 6, 3), (("times", -2, three), 3, 2),
            (("times", 0, two), 2, 1), (("by", 0, three), 3, 2), (("least", two, three), 5, 9),
            (("most", three, two), 5, 9), (("where", 1, 1, two, three), 5, 4), (("when", 0, 0, two, three), 3, 2),
            (("when", 0, 0, three, two), 3, 2), (("when", 0, 0, F, G), 1, 0), (("sum", F, G), 1, 0),
            (("where", 0, 1, F, G), 2, 1), (("most", F, G), 2, 1), (("most", ("sum", two, two), three), 7, 16),
        ):
            self.assertEqual(leaves(expression), many_leaves, expression)
            self.assertEqual(borders(expression), many_borders, expression)

    def test_the_greater_of_leaves_and_of_borders_each_by_itself(self):
        # The first has more leaves, the second more borders.
        first = ("sum", ("sum", self.two, self.two), self.two)
        second = ("least", ("sum", self.two, self.two), F)
        self.assertEqual((leaves(first), borders(first)), (8, 3))
        self.assertEqual((leaves(second), borders(second)), (5, 6))
        for expression in (("when", 0, 0, first, second), ("when", 0, 0, second, first)):
            self.assertEqual((leaves(expression), borders(expression)), (8, 6))

    def test_by_name(self):
        self.assertEqual(leaves(expression=self.two), 2)
        self.assertEqual(borders(expression=self.two), 1)


if __name__ == "__main__":
    unittest.main()
