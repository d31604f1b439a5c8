"""Points 2, 9 and 10: is_doubter, stakes_at, behind, bound, is_still."""

import copy
import random
import unittest
from fractions import Fraction

from nonegrowsrich.doubters import behind, bound, is_doubter, is_still, stakes_at
from nonegrowsrich.expressions import span
from nonegrowsrich.jumps import is_even
from tests.anything import broad, chain, nested, spots, with_spot, wrong_in_place_of, wrong_things
from tests.expression_maker import registers_by, shares_by
from tests.house_maker import NONE, ZERO, doubter_by, doubter_of, fig, figs
from tests.slow import slow_behind, slow_worth

X, Y = ("share", 0), ("share", 1)
EACH_DEED = [
    ("put", 0, 5), ("add", 1, -5), ("copy", 2, 3), ("plus", 3, 0), ("told", 0, 1),
    ("when", 1, 7, (("put", 0, 1),), (("add", 0, 1), ("told", 2, 0))), ("when", 0, 0, (), ()),
]
TWO = ("two", 1, (1, -2, 3, -1000), (("reg", 0), ("times", -1, X)), (tuple(EACH_DEED), (("put", 3, 1000),)))
THREE = (
    "three", 4, (1000, 0, 0, 0), (("share", 2), ("times", -8, Y), ("where", 2, 500, X, ("reg", 3))),
    ((), (("told", 3, 2),), tuple(EACH_DEED)),
)


def doing(*deeds, many=2):
    """A doubter that does the deeds behind each sign."""
    return doubter_of(many, behinds=(deeds,) * many)


def when_chain(deep, side, bottom):
    """Deeds nested so deep through one side of whens, the bottom innermost."""
    deeds = (bottom,)
    for k in range(deep - 1):
        deeds = (("when", 0, 0) + ((deeds, ()) if side == 0 else ((), deeds)),)
    return deeds


class DoubtersCase(unittest.TestCase):
    def takes(self, thing, many=2):
        self.assertIs(is_doubter(thing, many), True, thing)

    def refuses(self, thing, many=2):
        before = copy.deepcopy(thing)
        self.assertIs(is_doubter(thing, many), False)
        self.assertEqual(thing, before)


class IsDoubterTest(DoubtersCase):
    def test_of_two_signs_and_of_three(self):
        self.takes(TWO, 2)
        self.refuses(TWO, 3)
        self.takes(THREE, 3)
        self.refuses(THREE, 2)
        for many in (2, 3):
            self.takes(doubter_of(many), many)

    def test_by_names(self):
        self.assertIs(is_doubter(thing=TWO, many=2), True)
        self.assertIs(is_doubter(many=3, thing=TWO), False)

    def test_how_long_a_name_is(self):
        for length in range(1, 9):
            self.takes(doubter_of(2, name="abcdefgh"[:length]))
        for name in ("", "abcdefghi", "a" * 9, "a" * 10, "z" * 10000):
            self.refuses(doubter_of(2, name=name))

    def test_letters_of_a_name(self):
        for code in range(256):
            letter = chr(code)
            for name in (letter, "a" + letter, letter + "a", "abc" + letter + "efg"):
                self.assertIs(is_doubter(doubter_of(2, name=name), 2), "a" <= letter <= "z", name)
        for letter in ("\u0131", "\u017f", "\u0430", "\uff41", "\u4e2d", "\ud800", "\U0001d41a", "ab", "yz"):
            self.assertIs(is_doubter(doubter_of(2, name=letter), 2), letter.isascii())

    def test_scale(self):
        for scale in range(5):
            self.takes(doubter_of(2, scale=scale))
            self.takes(doubter_of(3, scale=scale), 3)
        for scale in (-1, 5, 6, -10 ** 30, 10 ** 30, True, False, None, "0", (0,)):
            self.refuses(doubter_of(2, scale=scale))

    def test_begins(self):
        for place in range(4):
            for number in (-1000, -999, 0, 999, 1000):
                self.takes(doubter_of(2, begins=ZERO[:place] + (number,) + ZERO[place + 1:]))
            for number in (-1001, 1001, -10 ** 30, 10 ** 30, True, False, None, "0", (0,), [0]):
                self.refuses(doubter_of(2, begins=ZERO[:place] + (number,) + ZERO[place + 1:]))
        for begins in ((), (0,), (0, 0, 0), (0,) * 5, [0] * 4, {0: 0, 1: 0, 2: 0, 3: 0}, "0000", None, 0):
            self.refuses(("a", 0, begins, (NONE, NONE), ((), ())))

    def test_a_stake_for_each_sign(self):
        for many in (2, 3):
            for count in range(5):
                thing = ("a", 0, ZERO, (NONE,) * count, ((),) * many)
                self.assertIs(is_doubter(thing, many), count == many)
            self.refuses(("a", 0, ZERO, [NONE] * many, ((),) * many), many)

    def test_each_stake_is_an_expression(self):
        for many in (2, 3):
            for sign in range(many):
                def with_stake(stake):
                    stakes = tuple(stake if place == sign else NONE for place in range(many))
                    return doubter_of(many, scale=4, stakes=stakes)
                for stake in (X, chain(8), ("times", 0, broad(39)), ("share", many - 1)):
                    self.takes(with_stake(stake), many)
                for stake in (chain(9), ("times", 0, broad(40)), ("share", many), ("fig", 1001), ("put", 0, 1), ()):
                    self.refuses(with_stake(stake), many)

    def test_spans_by_scale(self):
        for scale, widest in enumerate((500, 1000, 2000, 4000, 8000)):
            for many in (2, 3):
                for sign in range(many):
                    def with_fig(number):
                        numbers = [number if place == sign else 0 for place in range(many)]
                        return doubter_of(many, scale=scale, stakes=figs(*numbers))
                    for number in (widest, widest - 1, -widest, 1 - widest):
                        self.assertEqual(span(fig(number)), (number, number))
                        self.takes(with_fig(number), many)
                    for number in (widest + 1, -widest - 1):
                        self.assertEqual(span(fig(number)), (number, number))
                        self.refuses(with_fig(number), many)

    def test_one_end_of_a_span_beyond(self):
        for low, high, taken in ((-500, 500, True), (-501, 500, False), (-500, 501, False), (0, 501, False)):
            for stake in (("when", 0, 0, fig(low), fig(high)), ("where", 1, 1, fig(high), fig(low))):
                self.assertEqual(span(stake), (low, high))
                self.assertIs(is_doubter(doubter_of(2, stakes=(stake, NONE)), 2), taken)
                self.assertIs(is_doubter(doubter_of(2, stakes=(NONE, stake)), 2), taken)

    def test_spans_count_what_is_never_worth_so_much(self):
        for stake in (X, ("reg", 0), ("when", 0, -1000, fig(501), NONE), ("less", X, X)):
            self.refuses(doubter_of(2, stakes=(stake, NONE)))
            self.takes(doubter_of(2, scale=1, stakes=(stake, NONE)))
        self.takes(doubter_of(2, stakes=(("times", 0, ("reg", 0)), ("least", fig(500), ("most", fig(-500), X)))))

    def test_nothing_but_a_tuple_of_five(self):
        for thing, many in ((TWO, 2), (THREE, 3)):
            for item in (None, 0, (), "a", ((), ())):
                self.refuses(thing + (item,), many)
                self.refuses((item,) + thing, many)
            for at in range(5):
                self.refuses(thing[:at] + thing[at + 1:], many)
                self.refuses(thing[:at], many)
            self.refuses(list(thing), many)
            self.refuses((thing,), many)
            self.refuses(thing[::-1], many)


class DeedsTakenTest(DoubtersCase):
    def test_deeds_for_each_sign(self):
        for many in (2, 3):
            for count in range(5):
                thing = ("a", 0, ZERO, (NONE,) * many, ((),) * count)
                self.assertIs(is_doubter(thing, many), count == many)
            self.refuses(("a", 0, ZERO, (NONE,) * many, [()] * many), many)
            for sign in range(many):
                for deeds in ([], [EACH_DEED[0]], EACH_DEED[0], {}, "", None, 0, (None,), ((),), ([],), ("put",)):
                    behinds = tuple(deeds if place == sign else () for place in range(many))
                    self.refuses(("a", 0, ZERO, (NONE,) * many, behinds), many)

    def test_each_deed(self):
        for deed in EACH_DEED:
            self.takes(doing(deed))
            self.takes(doing(deed, many=3), 3)
            self.takes(doing(deed, deed, ("when", 0, 0, (deed,), (deed,))))

    def test_bounds_of_numbers(self):
        for make, low, high in (
            (lambda i: ("put", i, 0), 0, 3), (lambda c: ("put", 0, c), -1000, 1000),
            (lambda i: ("add", i, 0), 0, 3), (lambda c: ("add", 0, c), -1000, 1000),
            (lambda i: ("copy", i, 0), 0, 3), (lambda h: ("copy", 0, h), 0, 3),
            (lambda i: ("plus", i, 0), 0, 3), (lambda h: ("plus", 0, h), 0, 3),
            (lambda i: ("told", i, 0), 0, 3),
            (lambda i: ("when", i, 0, (), ()), 0, 3), (lambda c: ("when", 0, c, (), ()), -1000, 1000),
        ):
            for many in (2, 3):
                for number in (low, low + 1, high - 1, high):
                    self.takes(doing(make(number), many=many), many)
                    self.takes(doing(("when", 0, 0, (), (make(number),)), many=many), many)
                for number in (low - 1, high + 1, low - 10 ** 30, high + 10 ** 30, True, False, None, "1", (1,)):
                    self.refuses(doing(make(number), many=many), many)
                    self.refuses(doing(("when", 0, 0, (make(number),), ()), many=many), many)

    def test_told_signs_by_many(self):
        for many in (2, 3):
            for sign in range(-1, 5):
                self.assertIs(is_doubter(doing(("told", 0, sign), many=many), many), 0 <= sign < many)

    def test_words_that_are_none(self):
        for word in ("", "Put", "put ", "set", "fig", "sum", "where", "house", None, 0, ("put",), ["put"], {}):
            self.refuses(doing((word, 0, 1)))
            self.refuses(doing((word, 0, 1, (), ())))

    def test_an_item_more_or_fewer(self):
        for deed in EACH_DEED:
            self.refuses(doing(deed[:-1]))
            self.refuses(doing(deed[:1]))
            self.refuses(doing(list(deed)))
            self.refuses(doing((deed,)))
            for item in (0, 1, (), None):
                self.refuses(doing(deed + (item,)))

    def test_lists_within_when(self):
        for deeds in ([], [("put", 0, 1)], ("put", 0, 1), (["put", 0, 1],), None, 0, "", {}):
            self.refuses(doing(("when", 0, 0, deeds, ())))
            self.refuses(doing(("when", 0, 0, (), deeds)))

    def test_twenty_side_by_side(self):
        for deed in (("put", 0, 1), ("when", 0, 0, (), ())):
            for count in (0, 1, 19, 20):
                self.takes(doing(*(deed,) * count))
            for count in (21, 22, 40, 5000):
                self.refuses(doing(*(deed,) * count))

    def test_twenty_with_those_within_when(self):
        put = ("put", 0, 1)
        for first in range(20):
            taken = ("when", 0, 0, (put,) * first, (put,) * (19 - first))
            self.takes(doing(taken))
            self.refuses(doing(taken, put))
            self.refuses(doing(put, taken))
            self.refuses(doing(("when", 0, 0, taken[3] + (put,), taken[4])))
            self.refuses(doing(("when", 0, 0, taken[3], taken[4] + (put,))))
        self.refuses(doing(("when", 0, 0, (put,) * 20, ())))
        self.refuses(doing(("when", 0, 0, (), (put,) * 20)))
        self.refuses(doing(("when", 0, 0, (put,) * 11, ()), ("when", 0, 0, (), (put,) * 9)))
        self.takes(doing(("when", 0, 0, (put,) * 9, ()), ("when", 0, 0, (), (put,) * 9)))

    def test_twenty_four_deep(self):
        put = ("put", 0, 1)
        for count, taken in ((17, True), (18, False)):
            deeds = (put,) * count
            for k in range(3):
                deeds = (("when", 0, 0, deeds, ()),)
            self.assertIs(is_doubter(doing(*deeds), 2), taken)

    def test_twenty_for_each_sign_by_itself(self):
        full = (("put", 0, 1),) * 20
        for many in (2, 3):
            self.takes(doubter_of(many, behinds=(full,) * many), many)
            for sign in range(many):
                behinds = tuple(full + full[:1] if place == sign else () for place in range(many))
                self.refuses(doubter_of(many, behinds=behinds), many)

    def test_four_deep(self):
        for side in (0, 1):
            for bottom in (("put", 0, 1), ("when", 0, 0, (), ())):
                for deep in range(1, 5):
                    self.takes(doing(*when_chain(deep, side, bottom)))
                for deep in (5, 6, 14):
                    self.refuses(doing(*when_chain(deep, side, bottom)))
                self.takes(doing(("put", 0, 1), *when_chain(4, side, bottom)))
                self.refuses(doing(("put", 0, 1), *when_chain(5, side, bottom)))


class IsDoubterOfAnythingTest(DoubtersCase):
    def test_of_anything(self):
        for many in (2, 3):
            for thing in wrong_things():
                self.refuses(thing, many)

    def test_anything_in_each_part(self):
        # Of all these things just one is a NAME, one is TWO's scale and one is registers.
        for thing, many, taken in (
            (TWO, 2, {0: "fig", 1: 1, 2: (1, 1, 1, 1)}), (THREE, 3, {0: "fig", 2: (1, 1, 1, 1)}),
        ):
            for at in range(5):
                for item in wrong_things():
                    if at in taken and isinstance(item, type(taken[at])) and item == taken[at]:
                        # True is 1 to Python, and still no scale.
                        self.assertIs(is_doubter(with_spot(thing, (at,), item), many), item is not True)
                    else:
                        self.refuses(with_spot(thing, (at,), item), many)

    def test_wrong_kinds_at_each_spot(self):
        for thing, many in ((TWO, 2), (THREE, 3)):
            for path, item in spots(thing):
                for wrong in wrong_in_place_of(item):
                    self.refuses(with_spot(thing, path, wrong), many)

    def test_nested_thirty_deep(self):
        for make in (
            lambda x: ("when", 0, 0, (x,), (x,)), lambda x: ("when", 0, 0, (x, x), ()), lambda x: (x,),
            lambda x: ("sum", x, x), lambda x: ("a", 0, ZERO, (x, x), (x, x)),
        ):
            for deep in (1, 5, 12, 14):
                thing = nested(make, deep)
                self.assertIs(is_doubter(thing, 2), False)
                self.assertIs(is_doubter(("a", 0, ZERO, (thing, thing), ((), ())), 2), False)
                self.assertIs(is_doubter(doing(thing), 2), False)
                self.assertIs(is_doubter(("a", 0, ZERO, (NONE, NONE), (thing, thing)), 2), False)

    def test_made_by_chance(self):
        chance = random.Random(9)
        for k in range(200):
            many = chance.choice((2, 3))
            self.takes(doubter_by(chance, many), many)


class StakesAtTest(unittest.TestCase):
    def test_of_two_signs(self):
        # n is 5: register 0 times 5; -1 times 1000 times 2.
        self.assertEqual(stakes_at(TWO, (7, 0, 0, 0), (2, 3)), (35, -2000))
        self.assertEqual(stakes_at(TWO, (-7, 0, 0, 0), (0, 1)), (-7, 0))

    def test_of_three_signs(self):
        # n is 4, sign 2 at 500 thousandths, so the where word leads to register 3.
        self.assertEqual(stakes_at(THREE, (0, 0, 0, -6), (1, 1, 2)), (2000, -8000, -24))
        self.assertEqual(stakes_at(THREE, (0, 0, 0, -6), (2, 1, 2)), (2000, -8000, 2000))
        self.assertEqual(stakes_at(THREE, (0, 0, 0, -6), (0, 0, 1)), (1000, 0, -6))

    def test_by_the_registers_handed_in_and_not_by_scale(self):
        for scale in (1, 2, 3, 4):
            doubter = doubter_of(2, scale=scale, begins=(5, 5, 5, 5), stakes=(("reg", 0), ("reg", 3)))
            self.assertEqual(stakes_at(doubter, (1, 2, 3, 4), (1, 2)), (3, 12))

    def test_by_names_and_told_again(self):
        told = stakes_at(shares=(2, 3), registers=(7, 0, 0, 0), doubter=TWO)
        self.assertEqual(told, (35, -2000))
        self.assertIs(type(told), tuple)
        self.assertEqual(stakes_at(TWO, (7, 0, 0, 0), (2, 3)), told)

    def test_with_a_slow_reckoner(self):
        chance = random.Random(10)
        for k in range(150):
            many = chance.choice((2, 3))
            doubter, registers, shares = doubter_by(chance, many), registers_by(chance), shares_by(chance, many)
            point = [Fraction(number, sum(shares)) for number in shares]
            slow = tuple(sum(shares) * slow_worth(stake, registers, point) for stake in doubter[3])
            self.assertEqual(stakes_at(doubter, registers, shares), slow)


class BehindTest(unittest.TestCase):
    at = (10, -20, 900, -900)

    def does(self, told, *deeds, shares=(1, 3)):
        self.assertEqual(behind(doing(*deeds), self.at, shares, 1), told)

    def test_nothing(self):
        self.does(self.at)
        self.does(self.at, ("when", 0, 0, (), ()))

    def test_put(self):
        self.does((5, -20, 900, -900), ("put", 0, 5))
        self.does((10, -1000, 900, -900), ("put", 1, -1000))
        self.does((10, -20, 1000, -900), ("put", 2, 1000))
        self.does((10, -20, 900, 0), ("put", 3, 0))

    def test_add(self):
        self.does((15, -20, 900, -900), ("add", 0, 5))
        self.does((10, -21, 900, -900), ("add", 1, -1))
        self.does((-990, -20, 900, -900), ("add", 0, -1000))

    def test_add_at_the_ends(self):
        self.does((10, -20, 1000, -900), ("add", 2, 100))
        self.does((10, -20, 1000, -900), ("add", 2, 101))
        self.does((10, -20, 999, -900), ("add", 2, 99))
        self.does((10, -20, 900, -1000), ("add", 3, -100))
        self.does((10, -20, 900, -1000), ("add", 3, -101))
        self.does((10, -20, 900, -999), ("add", 3, -99))

    def test_copy(self):
        self.does((900, -20, 900, -900), ("copy", 0, 2))
        self.does((10, -20, 900, 10), ("copy", 3, 0))
        self.does(self.at, ("copy", 1, 1))

    def test_plus(self):
        self.does((-10, -20, 900, -900), ("plus", 0, 1))
        self.does((10, -20, 900, -900), ("plus", 0, 0), ("copy", 0, 0), ("add", 0, -10))
        self.does((10, -20, 0, -900), ("plus", 2, 3))

    def test_plus_at_the_ends(self):
        self.does((10, -20, 1000, -900), ("plus", 2, 2))
        self.does((10, -20, 900, -1000), ("plus", 3, 3))
        self.does((10, -20, 910, -920), ("plus", 2, 0), ("plus", 3, 1))

    def test_told(self):
        self.does((250, -20, 900, -900), ("told", 0, 0))
        self.does((10, -20, 900, 750), ("told", 3, 1))
        self.does((333, 666, 900, -900), ("told", 0, 0), ("told", 1, 1), shares=(1, 2))
        self.does((1000, 0, 900, -900), ("told", 0, 0), ("told", 1, 1), shares=(1, 0))
        doubter = doing(("told", 0, 2), ("told", 3, 0), many=3)
        self.assertEqual(behind(doubter, self.at, (2, 2, 3), 0), (428, -20, 900, 285))

    def test_clamped_after_each_one(self):
        self.does((500, -20, 900, -900), ("add", 0, 1000), ("add", 0, -500))
        self.does((-500, -20, 900, -900), ("add", 0, -1000), ("add", 0, -1000), ("add", 0, 500))
        self.does((10, -20, 100, -900), ("plus", 2, 2), ("plus", 2, 3))
        self.does((10, -20, 900, -100), ("plus", 3, 3), ("plus", 3, 2))
        self.does((1000, -20, 1000, -900), ("add", 2, 1000), ("copy", 0, 2))

    def test_one_behind_the_other(self):
        self.does((10, 10, 10, 10), ("copy", 1, 0), ("copy", 2, 1), ("copy", 3, 2))
        self.does((10, 10, -20, 900), ("copy", 3, 2), ("copy", 2, 1), ("copy", 1, 0))
        self.does((-20, 10, 900, 10), ("copy", 3, 0), ("copy", 0, 1), ("copy", 1, 3))

    def test_when_at_its_figure_and_beside_it(self):
        for figure, told in ((9, 2), (10, 2), (11, 1), (-1000, 2), (1000, 1)):
            self.does((10, -20, 900, told), ("when", 0, figure, (("put", 3, 1),), (("put", 3, 2),)))
        for figure, told in ((-21, 2), (-20, 2), (-19, 1)):
            self.does((told, -20, 900, -900), ("when", 1, figure, (("put", 0, 1),), (("put", 0, 2),)))

    def test_when_at_the_ends(self):
        doubter = doing(("when", 0, 1000, (("put", 1, 1),), (("put", 1, 2),)))
        self.assertEqual(behind(doubter, (1000, 0, 0, 0), (1, 1), 0), (1000, 2, 0, 0))
        self.assertEqual(behind(doubter, (999, 0, 0, 0), (1, 1), 0), (999, 1, 0, 0))
        doubter = doing(("when", 0, -1000, (("put", 1, 1),), (("put", 1, 2),)))
        self.assertEqual(behind(doubter, (-1000, 0, 0, 0), (1, 1), 0), (-1000, 2, 0, 0))

    def test_when_asks_behind_the_deeds_ahead_of_it(self):
        step = ("when", 0, 11, (("add", 0, 1),), (("put", 0, 0),))
        self.does((11, -20, 900, -900), step)
        self.does((0, -20, 900, -900), step, step)
        self.does((1, -20, 900, -900), step, step, step)

    def test_when_is_asked_once(self):
        # The deeds make the question's answer another one; both still are done, and the others are not.
        deed = ("when", 0, 11, (("put", 0, 500), ("put", 1, 1)), (("put", 0, 0), ("put", 2, 2)))
        self.does((500, 1, 900, -900), deed)

    def test_deeds_behind_a_when(self):
        self.does((7, 7, 900, -900), ("when", 0, 0, (), (("put", 0, 7),)), ("copy", 1, 0))

    def test_when_nested_and_clamped_within(self):
        deed = ("when", 0, 0, (("put", 0, -1),), (
            ("add", 0, 1000),
            ("when", 0, 1000, (("put", 1, 1),), (
                ("add", 0, -1),
                ("when", 0, 1000, (("plus", 3, 3), ("add", 3, 1)), (("put", 1, 3),)),
            )),
        ))
        self.assertIs(is_doubter(doing(deed), 2), True)
        self.does((999, -20, 900, -999), deed)

    def test_the_deeds_for_the_sign(self):
        for many, shares in ((2, (1, 1)), (3, (1, 1, 1))):
            behinds = tuple((("put", sign, 7),) for sign in range(many))
            for sign in range(many):
                told = self.at[:sign] + (7,) + self.at[sign + 1:]
                self.assertEqual(behind(doubter_of(many, behinds=behinds), self.at, shares, sign), told)

    def test_by_names_and_told_again(self):
        told = behind(sign=0, shares=(1, 1), registers=ZERO, doubter=TWO)
        # put 5; add -5; copy 0; plus 5; told 500; register 1 below 7: put 1; then not below 0.
        self.assertEqual(told, (1, -5, 0, 5))
        self.assertIs(type(told), tuple)
        self.assertEqual(behind(TWO, ZERO, (1, 1), 0), told)
        self.assertEqual(behind(THREE, ZERO, (1, 1, 1), 2), told)

    def test_with_a_slow_reckoner(self):
        chance = random.Random(11)
        for k in range(500):
            many = chance.choice((2, 3))
            doubter, registers, shares = doubter_by(chance, many, 3), registers_by(chance), shares_by(chance, many)
            for sign in range(many):
                slow = slow_behind(doubter[4][sign], registers, shares)
                self.assertEqual(behind(doubter, registers, shares, sign), slow)


class BoundTest(unittest.TestCase):
    def bound_of(self, scale, *stakes):
        doubter = doubter_of(len(stakes), scale=scale, stakes=stakes)
        self.assertIs(is_doubter(doubter, len(stakes)), True)
        return bound(doubter)

    def test_one_at_the_least(self):
        for scale in range(5):
            self.assertEqual(self.bound_of(scale, *figs(0, 0)), 1)
            self.assertEqual(self.bound_of(scale, *figs(0, 0, 0)), 1)
            self.assertEqual(self.bound_of(scale, *figs(0, -1)), 1)

    def test_the_greatest_end_without_signs(self):
        self.assertEqual(self.bound_of(0, *figs(3, -7)), 7)
        self.assertEqual(self.bound_of(0, *figs(-7, 3)), 7)
        self.assertEqual(self.bound_of(0, *figs(1, 2, 9)), 9)
        self.assertEqual(self.bound_of(0, *figs(-9, 2, 1)), 9)
        self.assertEqual(self.bound_of(0, ("when", 0, 0, fig(-30), fig(20)), NONE), 30)
        self.assertEqual(self.bound_of(0, ("when", 0, 0, fig(-20), fig(30)), NONE), 30)

    def test_rounded_up_by_scale(self):
        for scale, whole in enumerate((1, 2, 4, 8, 16)):
            for times in (1, 2, 3, 31):
                self.assertEqual(self.bound_of(scale, *figs(times * whole, 0)), times)
                self.assertEqual(self.bound_of(scale, *figs(0, -times * whole)), times)
                self.assertEqual(self.bound_of(scale, *figs(times * whole + 1, 0)), times + 1)
                self.assertEqual(self.bound_of(scale, *figs(0, -times * whole - 1)), times + 1)
                self.assertEqual(self.bound_of(scale, *figs(times * whole + whole, 0)), times + 1)

    def test_the_greatest_bound(self):
        for scale in range(5):
            self.assertEqual(self.bound_of(scale, *figs(500 * 2 ** scale, 0)), 500)
            self.assertEqual(self.bound_of(scale, *figs(0, 0, -500 * 2 ** scale)), 500)
        self.assertEqual(self.bound_of(1, ("reg", 0), X), 500)
        self.assertEqual(self.bound_of(4, ("less", ("reg", 0), X), NONE), 125)

    def test_by_name(self):
        self.assertEqual(bound(doubter=TWO), 500)
        # 8000 by 16.
        self.assertEqual(bound(doubter=THREE), 500)


class IsStillTest(unittest.TestCase):
    leap = ("where", 0, 500, ("fig", 0), ("fig", 1))
    bend = ("where", 0, 500, ("fig", 500), X)

    def test_each_stake_counts(self):
        for many in (2, 3):
            for sign in range(many):
                for stake, still in ((self.leap, False), (self.bend, True), (X, True)):
                    stakes = tuple(stake if place == sign else NONE for place in range(many))
                    doubter = doubter_of(many, scale=1, stakes=stakes)
                    self.assertIs(is_doubter(doubter, many), True)
                    self.assertIs(is_still(doubter, ZERO), still)

    def test_by_the_registers_handed_in(self):
        doubter = doubter_of(2, begins=(-5, 0, 0, 0), stakes=(NONE, ("when", 0, 0, NONE, self.leap)))
        self.assertIs(is_still(doubter, (-1, 0, 0, 0)), True)
        self.assertIs(is_still(doubter, ZERO), False)
        self.assertIs(is_still(doubter=doubter, registers=(1, 0, 0, 0)), False)

    def test_of_three_signs_along_the_whole_line(self):
        # On the line the shares of sign 1 and of sign 2 are 500 together, so one is not the other's.
        stake = ("where", 0, 500, ("sum", ("share", 1), ("share", 2)), ("fig", 500))
        self.assertIs(is_still(doubter_of(3, scale=2, stakes=(NONE, stake, NONE)), ZERO), True)
        stake = ("where", 0, 500, ("share", 1), ("fig", 500))
        self.assertIs(is_still(doubter_of(3, scale=2, stakes=(NONE, stake, NONE)), ZERO), False)
        self.assertIs(is_still(doubter_of(2, scale=2, stakes=(NONE, stake)), ZERO), True)

    def test_with_each_stake_by_itself(self):
        chance = random.Random(12)
        for k in range(150):
            many = chance.choice((2, 3))
            doubter, registers = doubter_by(chance, many, 8), registers_by(chance)
            told = all([is_even(stake, registers, many) for stake in doubter[3]])
            self.assertIs(is_still(doubter, registers), told)


if __name__ == "__main__":
    unittest.main()
