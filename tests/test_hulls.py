"""Hulls: corners, points in them, sides."""

import itertools
import random
import time
import unittest
from fractions import Fraction

from healfloor.hulls import hull_of, in_hull, sides_of
from helpers import chance_cell, in_hull_by_hand, kinds_in, turn_of, value

GREAT = 10 ** 6
SQUARE = ((0, 0), (2, 0), (2, 2), (0, 2))
SETS = (
    ((0, 0),), ((-5, 7),), ((0, 0), (1, 0)), ((0, 0), (0, 1)), ((3, 1), (-3, -2)), ((0, 0), (2, 4), (1, 2), (3, 6)),
    ((0, 0), (0, 5), (0, 2)), ((5, 0), (-1, 0), (2, 0)), ((3, 0), (2, 1), (0, 3), (1, 2)), SQUARE,
    SQUARE + ((1, 1), (1, 0), (2, 1), (1, 2), (0, 1)), ((0, 0), (4, 1), (1, 4)), ((0, 0), (4, 1), (1, 4), (2, 2)),
    ((-GREAT, -GREAT), (GREAT, GREAT), (GREAT, GREAT - 1)), ((-GREAT, 0), (GREAT, 1)),
)


def chance_cells(chance, most=8, far=3):
    return tuple([chance_cell(chance, far) for k in range(chance.randint(1, most))])


def corners_by_hand(cells):
    """Those cells that don't lie in the hull of the others."""
    cells = sorted(set(cells))
    return {cell for cell in cells if not in_hull_by_hand([other for other in cells if other != cell], cell)}


def as_point(x, y):
    x, y = Fraction(x), Fraction(y)
    return ((x.numerator, x.denominator), (y.numerator, y.denominator))


def by_sides(sides, x, y):
    return all([slope[0] * x + slope[1] * y >= number for slope, number in sides])


def chance_points(chance, cells, many):
    """Points near the cells: their own places, points between them, points by chance."""
    for turn in range(many):
        one, other, third = [chance.choice(cells) for k in range(3)]
        share, rest = Fraction(chance.randint(0, 4), 4), Fraction(chance.randint(-1, 7), 6)
        x, y = [one[k] + share * (other[k] - one[k]) for k in (0, 1)]
        yield x, y
        yield x + rest * (third[0] - x), y + rest * (third[1] - y)
        yield x + Fraction(chance.randint(-9, 9), 7), y + Fraction(chance.randint(-9, 9), 5)


class Corners(unittest.TestCase):
    def hull(self, cells):
        """The corners, where all that is told of them holds."""
        told = hull_of(cells)
        self.assertEqual(kinds_in(told), {tuple, int})
        self.assertEqual(set(told), corners_by_hand(cells), cells)
        self.assertEqual(len(set(told)), len(told))
        self.assertEqual(told[0], min(told))
        if len(told) > 2:
            for at in range(len(told)):
                self.assertGreater(turn_of(told[at - 2], told[at - 1], told[at]), 0, told)
        return told

    def test_one_cell(self):
        for cells in (((0, 0),), ((7, -3),), ((7, -3),) * 4, ((GREAT, -GREAT),)):
            self.assertEqual(self.hull(cells), cells[:1])

    def test_two_cells(self):
        for cells in (((0, 0), (1, 0)), ((0, 0), (0, 1)), ((-3, 5), (4, -9)), ((-3, -5), (4, 9))):
            self.assertEqual(self.hull(cells), cells)
            self.assertEqual(self.hull(cells[::-1]), cells)
            self.assertEqual(self.hull(cells + cells[::-1]), cells)

    def test_on_one_line(self):
        for step in ((1, 0), (0, 1), (2, 3), (1, -4)):
            row = [(7 + k * step[0], -2 + k * step[1]) for k in range(6)]
            for cells in (tuple(row), tuple(row[::-1]), tuple(row[3:] + row[:3] + row[2:5])):
                self.assertEqual(self.hull(cells), tuple(sorted((row[0], row[5]))))

    def test_squares(self):
        for cells in itertools.permutations(SQUARE):
            self.assertEqual(self.hull(cells), SQUARE)
        full = [(x, y) for x in range(3) for y in range(3)]
        self.assertEqual(self.hull(tuple(full)), SQUARE)
        self.assertEqual(self.hull(tuple(full[::-1] + full)), SQUARE)

    def test_counterclockwise_from_the_least(self):
        self.assertEqual(self.hull(((5, 0), (0, 5), (-5, 0), (0, -5), (0, 0))), ((-5, 0), (0, -5), (5, 0), (0, 5)))
        self.assertEqual(self.hull(((0, 3), (0, 0), (0, 1), (4, 1))), ((0, 0), (4, 1), (0, 3)))
        self.assertEqual(self.hull(((3, 0), (0, 1), (3, 5), (3, 2))), ((0, 1), (3, 0), (3, 5)))

    def test_none_on_the_line_of_its_neighbours(self):
        self.assertEqual(self.hull(((0, 0), (1, 0), (3, 0), (3, 1), (3, 3), (1, 1), (2, 2))), ((0, 0), (3, 0), (3, 3)))

    def test_known_sets(self):
        for cells in SETS:
            self.hull(cells)

    def test_by_chance(self):
        chance = random.Random(21)
        for turn in range(300):
            self.hull(chance_cells(chance, far=chance.choice((1, 3, GREAT))))

    def test_sixty_cells(self):
        chance = random.Random(211)
        cells = tuple([(x, x * x) for x in range(-500, 500, 17)])
        self.assertEqual(set(hull_of(cells)), set(cells))
        for turn in range(5):
            cells = tuple([chance_cell(chance, GREAT) for k in range(60)])
            told = hull_of(cells)
            self.assertTrue(all([turn_of(told[at - 1], told[at], cell) >= 0 for at in range(len(told)) for cell in cells]))


class Points(unittest.TestCase):
    def asked(self, cells, x, y):
        told = in_hull(cells, as_point(x, y))
        self.assertIs(type(told), bool)
        self.assertEqual(told, in_hull_by_hand(cells, (x, y)), (cells, x, y))
        return told

    def test_square(self):
        half = Fraction(1, 2)
        for x, y in SQUARE + ((1, 1), (1, 0), (0, 1), (2, 1), (half, half), (0, half), (2, Fraction(19, 10))):
            self.assertTrue(self.asked(SQUARE, x, y))
        for x, y in ((3, 1), (-1, 1), (1, 3), (1, -1), (3, 3), (2, Fraction(21, 10)), (-half, half), (4, 0), (0, 4)):
            self.assertFalse(self.asked(SQUARE, x, y))

    def test_one_cell(self):
        for cells in (((3, 4),), ((3, 4), (3, 4))):
            self.assertTrue(self.asked(cells, 3, 4))
            for x, y in ((4, 3), (3, 5), (2, 4), (Fraction(301, 100), 4), (3, Fraction(399, 100))):
                self.assertFalse(self.asked(cells, x, y))

    def test_on_one_line(self):
        cells = ((0, 0), (6, 3), (2, 1))
        for x, y in ((0, 0), (6, 3), (4, 2), (3, Fraction(3, 2)), (Fraction(1, 3), Fraction(1, 6))):
            self.assertTrue(self.asked(cells, x, y))
        for x, y in ((8, 4), (-2, -1), (1, 1), (3, 1), (Fraction(61, 10), Fraction(61, 20)), (3, Fraction(151, 100))):
            self.assertFalse(self.asked(cells, x, y))
        for cells in (((0, 0), (0, 5)), ((0, 0), (5, 0))):
            for x, y in itertools.product((-1, 0, 2, 5, 6), (-1, 0, 2, 5, 6)):
                self.asked(cells, x, y)

    def test_a_hair_outside(self):
        hair = Fraction(1, 10 ** 59)
        for cells in SETS:
            corners = hull_of(cells)
            for at, corner in enumerate(corners):
                ahead = corners[at - 1]
                # A third of the way to the corner ahead, and a hair to the outside of this side.
                x, y = [corner[k] + Fraction(ahead[k] - corner[k], 3) for k in (0, 1)]
                out = (corner[1] - ahead[1], ahead[0] - corner[0]) if corner != ahead else (1, 0)
                self.assertTrue(self.asked(cells, x, y))
                self.assertFalse(self.asked(cells, x + hair * out[0], y + hair * out[1]))
                self.assertEqual(self.asked(cells, x - hair * out[0], y - hair * out[1]), len(corners) > 2)

    def test_by_chance(self):
        chance = random.Random(212)
        told = []
        for turn in range(80):
            cells = chance_cells(chance, 7, chance.choice((1, 3, 100)))
            for x, y in chance_points(chance, cells, 8):
                told.append(self.asked(cells, x, y))
        self.assertGreater(told.count(True), 300)
        self.assertGreater(told.count(False), 300)


class Sides(unittest.TestCase):
    def sides(self, cells):
        told = sides_of(cells)
        self.assertEqual(kinds_in(told), {tuple, int})
        self.assertTrue(told)
        for side in told:
            self.assertEqual((len(side), len(side[0])), (2, 2))
            slope, number = side
            worths = [value(slope, cell) for cell in cells]
            self.assertEqual(min(worths), number, (cells, side))
        return told

    def test_known_sets(self):
        for cells in SETS:
            sides = self.sides(cells)
            for x in range(-7, 8):
                for y in range(-3, 9):
                    inside = in_hull_by_hand(cells, (x, y))
                    self.assertEqual(by_sides(sides, x, y), inside, (cells, x, y))
                    self.assertEqual(in_hull(cells, as_point(x, y)), inside)

    def test_far_out(self):
        for cells in SETS:
            sides = self.sides(cells)
            for x, y in itertools.product((-10 ** 9, 0, 10 ** 9), repeat=2):
                self.assertEqual(by_sides(sides, x, y), in_hull_by_hand(cells, (x, y)))

    def test_by_chance(self):
        chance = random.Random(22)
        for turn in range(100):
            cells = chance_cells(chance, 7, chance.choice((1, 2, 4, GREAT)))
            sides = self.sides(cells)
            for x, y in chance_points(chance, cells, 6):
                inside = in_hull_by_hand(cells, (x, y))
                self.assertEqual(by_sides(sides, x, y), inside)
                self.assertEqual(in_hull(cells, as_point(x, y)), inside)

    def test_sixty_cells(self):
        chance = random.Random(221)
        cells = tuple([chance_cell(chance, GREAT) for k in range(60)])
        great = 10 ** 59 + 3
        started = time.monotonic()
        for turn in range(20):
            sides = self.sides(cells)
            x, y = [Fraction(chance.randint(-GREAT * great, GREAT * great), great) for k in range(2)]
            self.assertEqual(by_sides(sides, x, y), in_hull(cells, as_point(x, y)))
        self.assertLess(time.monotonic() - started, 20)


class AskedAgain(unittest.TestCase):
    def test_told_the_same(self):
        def ask():
            return [(hull_of(cells), sides_of(cells), in_hull(cells, ((1, 2), (3, 4)))) for cells in SETS]

        self.assertEqual(ask(), ask())


if __name__ == "__main__":
    unittest.main()
