"""Cells, points, slopes and tables."""

import itertools
import random
import unittest
from fractions import Fraction

from healfloor.cells import carried, led, point_of, side_at, side_of, worth, worth_at

FAR = 10 ** 18
CELLS = ((0, 0), (1, 0), (0, 1), (-1, 2), (3, -5), (7, 7), (FAR, -FAR), (-FAR, 3))
SLOPES = ((0, 0), (1, 0), (0, -1), (2, 3), (-10 ** 6, 10 ** 6))


def sign(value):
    return (value > 0) - (value < 0)


def side(one, other, x, y):
    """The sign that the document names, by Python's own fractions."""
    return sign((other[0] - one[0]) * (y - one[1]) - (other[1] - one[1]) * (x - one[0]))


class Points(unittest.TestCase):
    def test_cell_as_point(self):
        self.assertEqual(point_of((3, -4)), ((3, 1), (-4, 1)))
        self.assertEqual(point_of((0, FAR)), ((0, 1), (FAR, 1)))


class Worths(unittest.TestCase):
    def test_at_cells(self):
        self.assertEqual(worth((2, -3), (5, 7)), -11)
        for slope, cell in itertools.product(SLOPES, CELLS):
            told = worth(slope, cell)
            self.assertEqual(told, slope[0] * cell[0] + slope[1] * cell[1])
            self.assertIs(type(told), int)

    def test_at_points(self):
        self.assertEqual(worth_at((2, -3), ((1, 2), (1, 3))), (0, 1))
        self.assertEqual(worth_at((1, 1), ((1, 2), (1, 3))), (5, 6))
        self.assertEqual(worth_at((-1, 0), ((1, 2), (1, 3))), (-1, 2))
        self.assertEqual(worth_at((3, 4), ((1, 3), (5, 4))), (6, 1))
        self.assertEqual(worth_at((0, 0), ((1, 3), (5, 4))), (0, 1))

    def test_cells_as_points(self):
        for slope, cell in itertools.product(SLOPES, CELLS):
            self.assertEqual(worth_at(slope, point_of(cell)), (worth(slope, cell), 1))

    def test_by_chance(self):
        chance = random.Random(5)
        for turn in range(200):
            x, y = [Fraction(chance.randrange(-10 ** 40, 10 ** 40), chance.randrange(1, 10 ** 40)) for k in range(2)]
            slope = (chance.randrange(-10 ** 6, 10 ** 6), chance.randrange(-10 ** 6, 10 ** 6))
            wanted = slope[0] * x + slope[1] * y
            point = ((x.numerator, x.denominator), (y.numerator, y.denominator))
            self.assertEqual(worth_at(slope, point), (wanted.numerator, wanted.denominator))


class Sides(unittest.TestCase):
    def test_known(self):
        self.assertEqual(side_of((0, 0), (4, 0), (1, 1)), 1)
        self.assertEqual(side_of((0, 0), (4, 0), (9, 0)), 0)
        self.assertEqual(side_of((0, 0), (4, 0), (1, -1)), -1)
        self.assertEqual(side_of((0, 0), (0, 4), (1, 1)), -1)
        self.assertEqual(side_of((0, 0), (0, 4), (-1, 1)), 1)
        self.assertEqual(side_at((0, 0), (4, 2), ((1, 1), (1, 2))), 0)
        self.assertEqual(side_at((0, 0), (4, 2), ((1, 1), (2, 3))), 1)
        self.assertEqual(side_at((0, 0), (4, 2), ((1, 1), (1, 3))), -1)

    def test_all_cells_and_turned_about(self):
        for one, other, third in itertools.product(CELLS, CELLS, CELLS):
            told = side_of(one, other, third)
            self.assertEqual(told, side(one, other, *third))
            self.assertIs(type(told), int)
            self.assertEqual(side_of(other, one, third), -told)
            self.assertEqual(side_at(one, other, point_of(third)), told)

    def test_first_two_the_same(self):
        for one, third in itertools.product(CELLS, CELLS):
            self.assertEqual(side_of(one, one, third), 0)
            self.assertEqual(side_at(one, one, ((1, 3), (-2, 7))), 0)

    def test_a_hair_off_the_line(self):
        great = 10 ** 59
        for one, other in (((0, 0), (3, 1)), ((-FAR, 5), (FAR, 7)), ((2, FAR), (3, -FAR))):
            for step in (-1, 0, 1):
                x = Fraction(1, 3)
                on_the_line = one[1] + Fraction(other[1] - one[1], other[0] - one[0]) * (x - one[0])
                y = on_the_line + Fraction(step, great)
                point = ((x.numerator, x.denominator), (y.numerator, y.denominator))
                self.assertEqual(side_at(one, other, point), step)
                self.assertEqual(side_at(other, one, point), -step)

    def test_points_with_unlike_lower_numbers(self):
        chance = random.Random(55)
        for turn in range(500):
            one, other = [(chance.randrange(-9, 10), chance.randrange(-9, 10)) for k in range(2)]
            x, y = [Fraction(chance.randrange(-40, 41), chance.randrange(1, 9)) for k in range(2)]
            point = ((x.numerator, x.denominator), (y.numerator, y.denominator))
            self.assertEqual(side_at(one, other, point), side(one, other, x, y))


class Moved(unittest.TestCase):
    def test_led(self):
        self.assertEqual(led((1, 0, 0, 1), (3, 4)), (3, 4))
        self.assertEqual(led((0, -1, 1, 0), (3, 4)), (-4, 3))
        self.assertEqual(led((0, 1, 1, 0), (3, 4)), (4, 3))
        self.assertEqual(led((1, 2, 3, 4), (5, 6)), (17, 39))
        self.assertEqual(led((-1, 0, 0, 1), (FAR, -FAR)), (-FAR, -FAR))
        self.assertEqual(led((9, -9, 9, 9), (FAR, -FAR)), (18 * FAR, 0))

    def test_carried(self):
        self.assertEqual(carried((3, 4), (0, 0)), (3, 4))
        self.assertEqual(carried((3, 4), (-5, 7)), (-2, 11))
        self.assertEqual(carried((FAR, -FAR), (FAR, -FAR)), (2 * FAR, -2 * FAR))

    def test_told_are_tuples(self):
        for told in (led((1, 2, 3, 4), (5, 6)), carried((5, 6), (7, 8)), point_of((5, 6))):
            self.assertIs(type(told), tuple)


class AskedAgain(unittest.TestCase):
    def test_told_the_same(self):
        def ask():
            told = [(worth(slope, cell), worth_at(slope, point_of(cell))) for slope in SLOPES for cell in CELLS]
            told += [(side_of(one, other, (1, 1)), carried(one, other)) for one in CELLS for other in CELLS]
            return told + [led((1, 2, 3, 4), cell) for cell in CELLS]

        self.assertEqual(ask(), ask())


if __name__ == "__main__":
    unittest.main()
