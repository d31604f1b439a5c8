"""Points 2 and 4: is_shares, lowest, mills."""

import copy
import unittest
from math import gcd

from nonegrowsrich.shares import is_shares, lowest, mills
from tests.anything import wrong_things

GREAT = 10 ** 80


class IsSharesTest(unittest.TestCase):
    def test_shares_of_two_signs(self):
        for thing in ((1, 1), (0, 1), (1, 0), (3, 7), (2, 3), (999, 1), (GREAT, GREAT + 1), (1, 10 ** 6000)):
            self.assertIs(is_shares(thing, 2), True)
            self.assertIs(is_shares(thing, 3), False)

    def test_shares_of_three_signs(self):
        for thing in ((1, 1, 1), (0, 0, 1), (0, 1, 0), (1, 0, 0), (6, 10, 15), (2, 3, 0), (GREAT, 0, GREAT + 1)):
            self.assertIs(is_shares(thing, 3), True)
            self.assertIs(is_shares(thing, 2), False)

    def test_a_common_part_is_refused(self):
        for thing in ((2, 2), (0, 2), (6, 9), (3 * GREAT, 3 * GREAT + 3), (7 * 10 ** 5000, 7)):
            self.assertIs(is_shares(thing, 2), False)
        for thing in ((2, 2, 2), (0, 0, 2), (6, 10, 14), (5, 0, 5 * GREAT), (0, 6, 9)):
            self.assertIs(is_shares(thing, 3), False)

    def test_all_nothing(self):
        self.assertIs(is_shares((0, 0), 2), False)
        self.assertIs(is_shares((0, 0, 0), 3), False)

    def test_below_nothing(self):
        for thing in ((-1, 2), (1, -1), (-1, -1), (0, -1)):
            self.assertIs(is_shares(thing, 2), False)
        self.assertIs(is_shares((1, 1, -1), 3), False)

    def test_truths_are_no_numbers(self):
        for thing in ((True, 1), (1, True), (False, 1), (1, False), (True, False)):
            self.assertIs(is_shares(thing, 2), False)
        self.assertIs(is_shares((1, 1, True), 3), False)

    def test_other_kinds(self):
        for thing in ([1, 1], {0: 1, 1: 1}, "11", ("1", "1"), (1, None), (1, (1,)), (1, [1]), (1, {})):
            self.assertIs(is_shares(thing, 2), False)

    def test_of_anything(self):
        for many in (2, 3):
            for thing in wrong_things():
                before = copy.deepcopy(thing)
                self.assertIs(is_shares(thing, many), False)
                self.assertEqual(thing, before)

    def test_by_names(self):
        self.assertIs(is_shares(thing=(1, 2), many=2), True)
        self.assertIs(is_shares(many=3, thing=(1, 2)), False)

    def test_all_small_pairs_and_triples(self):
        for a in range(-1, 7):
            for b in range(-1, 7):
                self.assertIs(is_shares((a, b), 2), min(a, b) >= 0 and gcd(a, b) == 1)
                for c in range(-1, 7):
                    self.assertIs(is_shares((a, b, c), 3), min(a, b, c) >= 0 and gcd(a, b, c) == 1)


class LowestTest(unittest.TestCase):
    def test_rows(self):
        for row, told in (
            ((2, 4), (1, 2)), ((0, 5), (0, 1)), ((5, 0), (1, 0)), ((3, 7), (3, 7)), ((6, 10, 15), (6, 10, 15)),
            ((0, 0, 9), (0, 0, 1)), ((4, 6, 8), (2, 3, 4)), ((12, 0, 18), (2, 0, 3)), ((1, 1), (1, 1)),
            ((3 * GREAT, 6 * GREAT), (1, 2)), ((GREAT, GREAT + 1, 0), (GREAT, GREAT + 1, 0)),
        ):
            self.assertEqual(lowest(row), told)
            self.assertIsInstance(lowest(row), tuple)
            self.assertEqual(lowest(row), lowest(row))

    def test_lowest_rows_are_shares(self):
        for a in range(5):
            for b in range(5):
                for c in range(5):
                    if a or b or c:
                        told = lowest((a, b, c))
                        self.assertIs(is_shares(told, 3), True)
                        self.assertEqual(tuple(number * gcd(a, b, c) for number in told), (a, b, c))

    def test_by_name(self):
        self.assertEqual(lowest(row=(10, 15)), (2, 3))


class MillsTest(unittest.TestCase):
    def test_just_so_many_thousandths(self):
        self.assertEqual(mills((1, 3), 0), 250)
        self.assertEqual(mills((1, 3), 1), 750)
        self.assertEqual(mills((7, 993), 0), 7)
        self.assertEqual(mills((1, 1, 2), 2), 500)
        self.assertEqual(mills((0, 1), 0), 0)
        self.assertEqual(mills((0, 1), 1), 1000)

    def test_a_little_less_and_a_little_more(self):
        # 7 thousandths, less and more one part in 10 ** 80.
        n = 1000 * GREAT
        self.assertEqual(mills((7 * GREAT - 1, n - 7 * GREAT + 1), 0), 6)
        self.assertEqual(mills((7 * GREAT + 1, n - 7 * GREAT - 1), 0), 7)
        self.assertEqual(mills((n - 1, 1), 0), 999)
        self.assertEqual(mills((n - 1, 1), 1), 0)

    def test_rounded_down(self):
        self.assertEqual([mills((1, 2), sign) for sign in (0, 1)], [333, 666])
        self.assertEqual([mills((1, 1, 1), sign) for sign in (0, 1, 2)], [333, 333, 333])
        self.assertEqual([mills((2, 2, 3), sign) for sign in (0, 1, 2)], [285, 285, 428])

    def test_by_names(self):
        self.assertEqual(mills(sign=1, shares=(1, 4)), 800)


if __name__ == "__main__":
    unittest.main()
