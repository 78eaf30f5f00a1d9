"""Fractions, held against Python's own."""

import itertools
import math
import random
import unittest
from fractions import Fraction

from healfloor.fractions import added, ceiling_of, floor_of, fraction, is_less, less, over, times

LONG = 10 ** 59 + 7 * 10 ** 30 + 12
NUMBERS = (0, 1, -1, 2, -3, 6, -7, 12, 360, LONG, -LONG, 6 * LONG // 4, 10 ** 60 - 1, -(10 ** 60 - 3))
FRACTIONS = ((0, 1), (1, 1), (-1, 1), (1, 2), (-1, 2), (7, 3), (-7, 3), (5, 1), (-5, 1), (2, 7), (-11, 12),
             (10 ** 60 - 1, 10 ** 59), (-(10 ** 60 - 1), 10 ** 59), (1, 10 ** 60 - 1), (LONG, 1), (-LONG, 7))


def own(value):
    return (value.numerator, value.denominator)


class Fractions(unittest.TestCase):
    def same(self, told, wanted):
        self.assertEqual(told, own(wanted))
        self.assertIs(type(told), tuple)
        self.assertEqual([type(part) for part in told], [int, int])
        self.assertGreaterEqual(told[1], 1)
        self.assertEqual(math.gcd(*told), 1)


class Made(Fractions):
    def test_known(self):
        self.assertEqual(fraction(6, 4), (3, 2))
        self.assertEqual(fraction(-6, 4), (-3, 2))
        self.assertEqual(fraction(6, -4), (-3, 2))
        self.assertEqual(fraction(-6, -4), (3, 2))
        self.assertEqual(fraction(8, 2), (4, 1))
        self.assertEqual(fraction(3, 5), (3, 5))

    def test_nought(self):
        for lower in (1, -1, 5, -5, LONG, -LONG):
            self.assertEqual(fraction(0, lower), (0, 1))

    def test_all_pairs(self):
        for upper, lower in itertools.product(NUMBERS, NUMBERS):
            if lower != 0:
                self.same(fraction(upper, lower), Fraction(upper, lower))

    def test_sixty_figures_with_common_parts(self):
        chance = random.Random(4)
        for turn in range(200):
            part = chance.randrange(1, 10 ** 30)
            upper = part * chance.randrange(-10 ** 30, 10 ** 30)
            lower = part * chance.choice((1, -1)) * chance.randrange(1, 10 ** 30)
            self.same(fraction(upper, lower), Fraction(upper, lower))


class Reckoned(Fractions):
    def test_known(self):
        self.assertEqual(added((1, 2), (1, 3)), (5, 6))
        self.assertEqual(added((1, 2), (-1, 2)), (0, 1))
        self.assertEqual(less((1, 2), (1, 3)), (1, 6))
        self.assertEqual(less((1, 3), (1, 2)), (-1, 6))
        self.assertEqual(times((2, 3), (-3, 4)), (-1, 2))
        self.assertEqual(over((2, 3), (-4, 9)), (-3, 2))
        self.assertEqual(over((-2, 3), (-4, 9)), (3, 2))
        self.assertEqual(over((0, 1), (-4, 9)), (0, 1))

    def test_all_pairs(self):
        for one, other in itertools.product(FRACTIONS, FRACTIONS):
            with self.subTest(one=one, other=other):
                self.same(added(one, other), Fraction(*one) + Fraction(*other))
                self.same(less(one, other), Fraction(*one) - Fraction(*other))
                self.same(times(one, other), Fraction(*one) * Fraction(*other))
                if other != (0, 1):
                    self.same(over(one, other), Fraction(*one) / Fraction(*other))

    def test_told_ones_are_handed_on(self):
        told, wanted = (1, 3), Fraction(1, 3)
        for one in FRACTIONS:
            told, wanted = added(times(told, one), (5, 7)), wanted * Fraction(*one) + Fraction(5, 7)
            self.same(told, wanted)


class Compared(unittest.TestCase):
    def test_like_ones(self):
        for one in FRACTIONS:
            self.assertIs(is_less(one, one), False)

    def test_unlike_ones(self):
        self.assertIs(is_less((1, 3), (1, 2)), True)
        self.assertIs(is_less((1, 2), (1, 3)), False)
        self.assertIs(is_less((-1, 2), (-1, 3)), True)
        for one, other in itertools.product(FRACTIONS, FRACTIONS):
            self.assertIs(is_less(one, other), Fraction(*one) < Fraction(*other))

    def test_a_hair_apart(self):
        great = 10 ** 59
        self.assertIs(is_less((great - 1, great), (great, great + 1)), True)
        self.assertIs(is_less((great, great + 1), (great - 1, great)), False)


class Rounded(unittest.TestCase):
    def test_known(self):
        for one, low, high in (((7, 3), 2, 3), ((-7, 3), -3, -2), ((1, 2), 0, 1), ((-1, 2), -1, 0),
                               ((5, 1), 5, 5), ((-5, 1), -5, -5), ((0, 1), 0, 0)):
            self.assertEqual(floor_of(one), low)
            self.assertEqual(ceiling_of(one), high)

    def test_all(self):
        for one in FRACTIONS:
            self.assertEqual(floor_of(one), math.floor(Fraction(*one)))
            self.assertEqual(ceiling_of(one), math.ceil(Fraction(*one)))
            self.assertEqual({type(floor_of(one)), type(ceiling_of(one))}, {int})


class AskedAgain(unittest.TestCase):
    def test_told_the_same(self):
        def ask():
            told = [fraction(upper, lower) for upper in NUMBERS for lower in NUMBERS if lower != 0]
            for one, other in itertools.product(FRACTIONS, FRACTIONS):
                told += [added(one, other), less(one, other), times(one, other), is_less(one, other)]
            return told + [(floor_of(one), ceiling_of(one)) for one in FRACTIONS]

        self.assertEqual(ask(), ask())


if __name__ == "__main__":
    unittest.main()
