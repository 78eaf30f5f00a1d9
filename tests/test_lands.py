"""Lands: which points and which cells are in them."""

import random
import unittest
from fractions import Fraction

from healfloor.hulls import hull_of
from healfloor.lands import in_land, land_cells
from helpers import as_point, chance_cell, in_land_by_hand, kinds_in, land_by_hand

FAR = 10 ** 30
SQUARE = ((0, 0), (4, 0), (4, 4), (0, 4))
# Each side halved, one of them cut twice: cells on one line with their neighbours.
HALVED = ((0, 0), (1, 0), (2, 0), (4, 0), (4, 2), (4, 4), (2, 4), (0, 4), (0, 2))
SLANTED = ((0, 0), (5, 1), (6, 4), (1, 3))
HAIR = Fraction(1, 10 ** 59)


def chance_ring(chance, far):
    """A ring as a paper that holds may have one: counterclockwise, here and there a cell between corners."""
    while True:
        corners = hull_of(tuple([(2 * x, 2 * y) for x, y in [chance_cell(chance, far) for k in range(6)]]))
        if len(corners) > 2:
            break
    ring = []
    for one, other in zip(corners, corners[1:] + corners[:1]):
        ring.append(one)
        if chance.random() < 0.5:
            ring.append(((one[0] + other[0]) // 2, (one[1] + other[1]) // 2))
    start = chance.randrange(len(ring))
    return tuple(ring[start:] + ring[:start])


class InLand(unittest.TestCase):
    def inside(self, ring, *numbers):
        told = in_land(ring, as_point(numbers))
        self.assertIs(type(told), bool)
        self.assertEqual(told, in_land_by_hand(ring, numbers), (ring, numbers))
        return told

    def test_within(self):
        for ring in (SQUARE, HALVED, SLANTED):
            for numbers in ((2, 2), (Fraction(5, 2), Fraction(7, 3)), (Fraction(1, 3), Fraction(1, 5))):
                self.assertTrue(self.inside(ring, *numbers))

    def test_border_and_corners(self):
        for ring in (SQUARE, HALVED):
            for numbers in SQUARE + ((0, 3), (3, 0), (4, Fraction(1, 7)), (Fraction(22, 7), 4), (2, 0)):
                self.assertTrue(self.inside(ring, *numbers))
        for numbers in SLANTED + ((Fraction(5, 2), Fraction(1, 2)), (Fraction(16, 3), 2), (Fraction(1, 3), 1)):
            self.assertTrue(self.inside(SLANTED, *numbers))

    def test_a_hair_outside(self):
        for ring in (SQUARE, HALVED):
            for x, y in ((2, -HAIR), (2, 4 + HAIR), (-HAIR, 2), (4 + HAIR, 2), (-HAIR, 0), (4, 4 + HAIR)):
                self.assertFalse(self.inside(ring, x, y))
            for x, y in ((2, HAIR), (2, 4 - HAIR), (HAIR, 2), (4 - HAIR, 2), (HAIR, 0), (4, 4 - HAIR)):
                self.assertTrue(self.inside(ring, x, y))
        self.assertFalse(self.inside(SLANTED, Fraction(5, 2), Fraction(1, 2) - HAIR))
        self.assertTrue(self.inside(SLANTED, Fraction(5, 2), Fraction(1, 2) + HAIR))

    def test_outside_on_a_line_of_a_side(self):
        for x, y in ((5, 0), (-1, 0), (4, 5), (0, -1)):
            self.assertFalse(self.inside(SQUARE, x, y))
            self.assertFalse(self.inside(HALVED, x, y))

    def test_each_side_alone(self):
        # Just one side has the point to its right: it counts wherever the ring begins.
        for ring in (SQUARE, HALVED, SLANTED):
            for start in range(len(ring)):
                turned = ring[start:] + ring[:start]
                for x, y in ((2, -1), (2, 7), (-1, 2), (9, 2)):
                    self.assertFalse(self.inside(turned, x, y))
                self.assertTrue(self.inside(turned, 2, 2))

    def test_clockwise(self):
        # Nothing lies left of all sides.
        for ring in (SQUARE, HALVED, SLANTED):
            for x in range(-1, 8):
                for y in range(-1, 6):
                    self.assertFalse(self.inside(ring[::-1], x, y))

    def test_twice_around(self):
        for x, y in ((2, 2), (0, 0), (-1, 2), (5, 5), (4, HAIR)):
            self.assertEqual(self.inside(SQUARE * 2, x, y), self.inside(SQUARE, x, y))

    def test_great_numbers(self):
        ring = tuple([(x * FAR, y * FAR) for x, y in SLANTED])
        for x, y in SLANTED + ((Fraction(5, 2), Fraction(1, 2)),):
            self.assertTrue(self.inside(ring, x * FAR, y * FAR))
        self.assertFalse(self.inside(ring, Fraction(5 * FAR, 2), Fraction(FAR, 2) - HAIR))

    def test_by_chance(self):
        chance = random.Random(28)
        told = []
        for turn in range(600):
            ring = chance_ring(chance, chance.choice((1, 3, 1000)))
            one, other = chance.sample(ring, 2)
            share = Fraction(chance.randint(-3, 10), 7)
            told.append(self.inside(ring, one[0] + share * (other[0] - one[0]), one[1] + share * (other[1] - one[1])))
        self.assertGreater(min(told.count(True), told.count(False)), 100)


class LandCells(unittest.TestCase):
    def cells(self, ring, least=-12, most=12):
        told = land_cells(ring)
        self.assertIs(type(told), tuple)
        self.assertLessEqual(kinds_in(told), {tuple, int})
        self.assertEqual(told, land_by_hand(ring, least, most))
        return told

    def test_known(self):
        self.assertEqual(self.cells(((0, 0), (1, 0), (1, 1), (0, 1))), ((0, 0), (0, 1), (1, 0), (1, 1)))
        self.assertEqual(len(self.cells(SQUARE)), 25)
        self.assertEqual(self.cells(HALVED), land_cells(SQUARE))
        self.assertEqual(self.cells(SQUARE * 2), land_cells(SQUARE))
        self.assertEqual(self.cells(((-1, 0), (0, -1), (1, 0), (0, 1))),
                         ((-1, 0), (0, -1), (0, 0), (0, 1), (1, 0)))
        self.assertEqual(self.cells(((0, 0), (7, 3), (3, 7))),
                         ((0, 0), (1, 1), (1, 2), (2, 1), (2, 2), (2, 3), (2, 4), (3, 2), (3, 3), (3, 4), (3, 5),
                          (3, 6), (3, 7), (4, 2), (4, 3), (4, 4), (4, 5), (4, 6), (5, 3), (5, 4), (5, 5), (6, 3),
                          (6, 4), (7, 3)))

    def test_wherever_the_ring_begins(self):
        for ring in (SQUARE, HALVED, SLANTED):
            for start in range(len(ring)):
                self.assertEqual(self.cells(ring[start:] + ring[:start]), land_cells(ring))

    def test_by_chance(self):
        chance = random.Random(29)
        for turn in range(80):
            self.cells(chance_ring(chance, 5), -10, 10)

    def test_great_ones(self):
        self.assertEqual(len(self.cells(((0, 0), (30, 0), (30, 30), (0, 30)), -1, 41)), 961)
        self.assertEqual(len(self.cells(((0, 20), (20, 0), (40, 20), (20, 40)), -1, 41)), 841)

    def test_far_out(self):
        by = (FAR, -FAR)
        ring = tuple([(x + by[0], y + by[1]) for x, y in SLANTED])
        self.assertEqual(land_cells(ring), tuple([(x + by[0], y + by[1]) for x, y in land_cells(SLANTED)]))


class AskedAgain(unittest.TestCase):
    def test_told_the_same(self):
        chance = random.Random(291)
        rings = [chance_ring(chance, 3) for turn in range(10)]

        def ask():
            return [(land_cells(ring), in_land(ring, ((1, 2), (1, 3)))) for ring in rings]

        self.assertEqual(ask(), ask())


if __name__ == "__main__":
    unittest.main()
