"""What finding and nones stand on: forms, cells, bends and pulls over cells."""

import random
import unittest
from fractions import Fraction

from nonegrowsrich.bends import FINE, bend_of, central, reach, settled
from nonegrowsrich.cells import faces, parted, shares_in, side_on, signs_on
from nonegrowsrich.expressions import worth
from nonegrowsrich.forms import form_at, short_form
from nonegrowsrich.houses import is_right, pull
from nonegrowsrich.pulls import gap, pulls_of, settled_pulls
from nonegrowsrich.shares import is_shares, lowest
from tests.expression_maker import expression_by, registers_by
from tests.house_maker import small_house_by


def form_by(chance, many):
    return tuple(chance.choice((-1000, -1, 0, 1, 7, chance.randint(-99, 99))) for sign in range(many))


def cell_by(chance, many):
    """A cell that some forms by chance leave."""
    cell = chance.choice(faces(many))
    for k in range(chance.randrange(6)):
        cell = chance.choice(parted(cell, form_by(chance, many)))[1]
    return cell


def some_in(chance, cell):
    """Shares in the cell, nearer to some of its corners than to others."""
    weights = [chance.choice((1, 1, 2, 1000, chance.randint(1, 10 ** 6))) for corner in cell]
    return lowest(tuple(sum(weight * corner[sign] for weight, corner in zip(weights, cell)) for sign in range(len(cell[0]))))


class CellsTest(unittest.TestCase):
    def test_faces(self):
        self.assertEqual(sorted(faces(2)), sorted([((1, 0),), ((0, 1),), ((1, 0), (0, 1))]))
        self.assertEqual([len(cell) for cell in faces(3)], [1, 1, 1, 2, 2, 2, 3])
        for many in (2, 3):
            self.assertEqual(len({tuple(signs_on(cell)) for cell in faces(many)}), 2 ** many - 1)
            for cell in faces(many):
                self.assertEqual(signs_on(cell), [sign for sign in range(many) if shares_in(cell)[sign]])

    def test_parts_lie_where_they_are_told_to(self):
        for seed in range(400):
            chance = random.Random(seed)
            many = chance.choice((2, 3))
            cell, form = cell_by(chance, many), form_by(chance, many)
            parts = parted(cell, form)
            self.assertIn([side for side, part in parts], ([-1], [0], [1], [-1, 0, 1]))
            for side, part in parts:
                self.assertEqual(len(set(part)), len(part))
                self.assertEqual(side_on(part, form), side)
                self.assertEqual(signs_on(part), signs_on(cell))
                for shares in (shares_in(part), some_in(chance, part)):
                    self.assertTrue(is_shares(shares, many))
                    height = form_at(form, shares)
                    self.assertEqual((height > 0) - (height < 0), side)
            self.assertEqual(side_on(cell, form), None if len(parts) == 3 else parts[0][0])

    def test_a_split_by_hand(self):
        triangle = faces(3)[-1]
        parts = dict(parted(triangle, (1, -1, 0)))
        self.assertEqual(set(parts[0]), {(1, 1, 0), (0, 0, 1)})
        self.assertEqual(set(parts[-1]), {(1, 1, 0), (0, 1, 0), (0, 0, 1)})
        self.assertEqual(set(parts[1]), {(1, 1, 0), (1, 0, 0), (0, 0, 1)})
        parts = dict(parted(triangle, (2, -1, -1)))
        self.assertEqual(set(parts[-1]), {(1, 2, 0), (0, 1, 0), (0, 0, 1), (1, 0, 2)})
        self.assertEqual(dict(parted(((1, 0), (0, 1)), (3, -2))),
                         {-1: ((2, 3), (0, 1)), 0: ((2, 3),), 1: ((1, 0), (2, 3))})

    def test_short_forms(self):
        for form, short in (((4, -6), (2, -3)), ((0, 0, 0), (0, 0, 0)), ((0, -5, 10), (0, -1, 2)), ((3, 2), (3, 2)),
                            ((10 ** 60, -10 ** 60), (1, -1)), ((-1, -1), (-1, -1))):
            self.assertEqual(short_form(form), short)


class BendsTest(unittest.TestCase):
    def test_worth_over_cells(self):
        """A bend followed into small cells is worth what the expression is, and stays within its reach."""
        for seed in range(400):
            chance = random.Random(seed)
            many = chance.choice((2, 3))
            registers = registers_by(chance)
            expression = expression_by(chance, many, 20, 6)
            bend = bend_of(expression, registers, many)
            cell = cell_by(chance, many)
            for k in range(12):
                shares = some_in(chance, cell)
                value = Fraction(worth(expression, registers, shares), sum(shares))
                low, high = reach(bend, cell)
                self.assertTrue(low <= value * FINE <= high, (seed, k))
                bend, lines = settled(bend, cell)
                low, high = reach(bend, cell)
                self.assertTrue(low <= value * FINE <= high, (seed, k))
                if not lines:
                    self.assertEqual(bend[0], "straight")
                    self.assertEqual(form_at(bend[1], shares), worth(expression, registers, shares))
                    break
                for line in lines:
                    self.assertIsNone(side_on(cell, line))
                self.assertIn(central(lines, cell), lines)
                cell = chance.choice(parted(cell, chance.choice(lines)))[1]


class PullsTest(unittest.TestCase):
    def test_gaps_over_cells(self):
        """Gaps are as the pulls tell at shares in the cell, where these are straight and where they are not."""
        for seed in range(250):
            chance = random.Random(seed)
            many = chance.choice((2, 3))
            house = small_house_by(chance, many)
            pulls, cell = pulls_of(house), cell_by(chance, many)
            for k in range(8):
                pulls, lines = settled_pulls(pulls, cell)
                shares = some_in(chance, cell)
                told = pull(house, shares)
                for sign in range(many):
                    for other in range(many):
                        low, high = gap(pulls[sign], pulls[other], cell)
                        if low >= 0:
                            self.assertGreaterEqual(told[sign], told[other])
                        if low > 0:
                            self.assertGreater(told[sign], told[other])
                        if high <= 0:
                            self.assertLessEqual(told[sign], told[other])
                        if high < 0:
                            self.assertLess(told[sign], told[other])
                if not lines:
                    self.assertEqual(tuple(form_at(form, shares) for form, terms in pulls), told)
                    break
                cell = chance.choice(parted(cell, central(lines, cell)))[1]
            self.assertEqual(is_right(house, shares), all(
                number == 0 or pulled == max(told) for number, pulled in zip(shares, told)))


if __name__ == "__main__":
    unittest.main()
