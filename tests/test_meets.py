"""What the hulls of several rows have in common, and what parts them."""

import itertools
import random
import time
import unittest
from fractions import Fraction

from healfloor.hulls import hull_of, in_hull
from healfloor.meets import meet_of
from healfloor.rows import exchanged
from healfloor.slopes import parting_of
from helpers import chance_cell, chance_plain, in_hull_by_hand, kinds_in, turn_of, value

SQUARE = ((0, 0), (0, 4), (4, 0), (4, 4))


def whole(*cells):
    return tuple([((x, 1), (y, 1)) for x, y in cells])


def moved(row, by):
    return tuple([(x + by[0], y + by[1]) for x, y in row])


def crossings(one, other):
    """Where the borders of two hulls cross, and the corners of both, by Python's own fractions."""
    told = list(one) + list(other)
    for at, to in itertools.product(range(len(one)), range(len(other))):
        a, b, c, d = one[at - 1], one[at], other[to - 1], other[to]
        turning = (b[0] - a[0]) * (d[1] - c[1]) - (b[1] - a[1]) * (d[0] - c[0])
        if turning != 0:
            share = Fraction(turn_of(c, d, a), turning)
            told.append((a[0] + share * (b[0] - a[0]), a[1] + share * (b[1] - a[1])))
    return told


def candidates(rows):
    """All corners that a meet may have, of which those are left that lie in all hulls."""
    hulls = [hull_of(row) for row in rows]
    pairs = itertools.combinations_with_replacement(hulls, 2)
    points = {point for one, other in pairs for point in crossings(one, other)}
    return [point for point in points if all([in_hull_by_hand(row, point) for row in rows])]


def chance_rows(chance, most, cells, far):
    rows = []
    for turn in range(chance.randint(1, most)):
        rows.append(tuple(sorted({chance_cell(chance, far) for k in range(chance.randint(1, cells))})))
    return tuple(rows)


class Meets(unittest.TestCase):
    def meet(self, rows):
        """The corners told, as fractions of Python's own, where all that is told of them holds."""
        told = meet_of(rows)
        self.assertIs(type(told), tuple)
        self.assertLessEqual(kinds_in(told), {tuple, int})
        corners = []
        for point in told:
            for upper, lower in point:
                self.assertEqual((Fraction(upper, lower).numerator, Fraction(upper, lower).denominator), (upper, lower))
            corners.append(tuple([Fraction(upper, lower) for upper, lower in point]))
        self.assertEqual(len(set(corners)), len(corners))
        wanted = candidates(rows)
        self.assertEqual(corners == [], wanted == [], rows)
        for corner in corners:
            self.assertTrue(all([in_hull_by_hand(row, corner) for row in rows]), (rows, corner))
        for point in wanted:
            self.assertTrue(in_hull_by_hand(corners, point), (rows, point))
        self.assertEqual(corners[:1], sorted(corners)[:1])
        if len(corners) > 2:
            for at in range(len(corners)):
                self.assertGreater(turn_of(corners[at - 2], corners[at - 1], corners[at]), 0)
        return told

    def test_one_row(self):
        self.assertEqual(self.meet((SQUARE,)), whole((0, 0), (4, 0), (4, 4), (0, 4)))
        self.assertEqual(self.meet((((3, -4),),)), whole((3, -4)))
        self.assertEqual(self.meet((((0, 3), (1, 2), (2, 1)),)), whole((0, 3), (2, 1)))
        self.assertEqual(self.meet((tuple([(x, y) for x in range(2) for y in range(4)]),)),
                         whole((0, 0), (1, 0), (1, 3), (0, 3)))

    def test_the_same_again(self):
        for row in (SQUARE, ((3, -4),), ((0, 3), (2, 1))):
            self.assertEqual(self.meet((row,) * 3), meet_of((row,)))

    def test_much_in_common(self):
        self.assertEqual(self.meet((SQUARE, moved(SQUARE, (1, 2)))), whole((1, 2), (4, 2), (4, 4), (1, 4)))
        diamond = ((-1, 2), (2, -1), (2, 5), (5, 2))
        self.assertEqual(self.meet((SQUARE, diamond)),
                         whole((0, 1), (1, 0), (3, 0), (4, 1), (4, 3), (3, 4), (1, 4), (0, 3)))
        self.assertEqual(self.meet((SQUARE, ((1, 1), (2, 1), (2, 2)))), whole((1, 1), (2, 1), (2, 2)))
        self.assertEqual(self.meet((((1, 1), (2, 1), (2, 2)), SQUARE)), whole((1, 1), (2, 1), (2, 2)))

    def test_fractions(self):
        third, half = (1, 3), (1, 2)
        self.assertEqual(self.meet((((0, 0), (3, 1)), ((1, 0), (1, 1)))), (((1, 1), third),))
        self.assertEqual(self.meet((((0, 0), (1, 1)), ((0, 1), (1, 0)))), ((half, half),))
        self.assertEqual(self.meet((((0, 0), (0, 1), (1, 0)), ((0, 0), (1, 1)))), (((0, 1), (0, 1)), (half, half)))
        self.assertEqual(self.meet((((0, 0), (0, 1), (1, 0)), ((0, 0), (1, 0), (1, 1)))),
                         (((0, 1), (0, 1)), ((1, 1), (0, 1)), (half, half)))
        self.assertEqual(self.meet((((-1000, -999), (1000, 998)), ((-999, 1000), (998, -1000)))),
                         meet_of((((-999, 1000), (998, -1000)), ((-1000, -999), (1000, 998)))))

    def test_stretches(self):
        self.assertEqual(self.meet((SQUARE, moved(SQUARE, (4, 1)))), whole((4, 1), (4, 4)))
        self.assertEqual(self.meet((SQUARE, moved(SQUARE, (-1, 4)))), whole((0, 4), (3, 4)))
        self.assertEqual(self.meet((SQUARE, ((-2, 2), (9, 2)))), whole((0, 2), (4, 2)))
        self.assertEqual(self.meet((((-2, 2), (9, 2)), SQUARE)), whole((0, 2), (4, 2)))
        self.assertEqual(self.meet((((0, 0), (6, 3)), ((2, 1), (8, 4)))), whole((2, 1), (6, 3)))
        self.assertEqual(self.meet((((0, 0), (0, 6)), ((0, 2), (0, 9)))), whole((0, 2), (0, 6)))
        self.assertEqual(self.meet((((0, 6), (6, 0)), ((1, 5), (9, -3)))), whole((1, 5), (6, 0)))

    def test_one_point(self):
        self.assertEqual(self.meet((SQUARE, moved(SQUARE, (4, 4)))), whole((4, 4)))
        self.assertEqual(self.meet((SQUARE, ((3, 1),))), whole((3, 1)))
        self.assertEqual(self.meet((((3, 1),), SQUARE)), whole((3, 1)))
        self.assertEqual(self.meet((SQUARE, ((4, 2), (7, 1), (7, 3)))), whole((4, 2)))
        self.assertEqual(self.meet((((0, 0), (6, 3)), ((6, 3), (8, 4)))), whole((6, 3)))
        triangles = (((0, 0), (6, 0)), ((0, 0), (2, 4)), ((-1, 0), (0, 0), (0, 3)))
        self.assertEqual(self.meet(triangles), whole((0, 0)))

    def test_nothing(self):
        self.assertEqual(self.meet((SQUARE, moved(SQUARE, (5, 0)))), ())
        self.assertEqual(self.meet((SQUARE, ((5, 4),))), ())
        self.assertEqual(self.meet((((0, 0),), ((0, 1),))), ())
        self.assertEqual(self.meet((((0, 0), (1, 0)), ((2, 0), (3, 0)))), ())
        self.assertEqual(self.meet((((0, 0), (2, 0)), ((0, 1), (2, 1)))), ())
        sides = (((0, 0), (6, 0)), ((0, 0), (3, 6)), ((3, 6), (6, 0)))
        self.assertEqual(self.meet(sides), ())
        for pair in itertools.combinations(sides, 2):
            self.assertEqual(len(self.meet(pair)), 1)

    def test_lists_of_healing_rows(self):
        chance = random.Random(231)
        for turn in range(60):
            plain = chance_plain(chance, {chance_cell(chance, 2) for k in range(5)})
            self.meet(exchanged(plain)[:6])

    def test_by_chance(self):
        chance = random.Random(23)
        sizes = []
        for turn in range(300):
            rows = chance_rows(chance, 4, 5, chance.choice((1, 2, 4, 1000)))
            told = self.meet(rows)
            sizes.append(min(len(told), 4))
            self.assertEqual(meet_of(rows[::-1]), told)
        for size in range(5):
            self.assertGreater(sizes.count(size), 10, size)

    def test_twenty_rows(self):
        chance = random.Random(232)
        started = time.monotonic()
        for turn in range(20):
            rows = tuple([tuple(sorted({chance_cell(chance, 1000) for k in range(8)})) for row in range(20)])
            told = meet_of(rows)
            for point in told:
                self.assertTrue(all([in_hull(row, point) for row in rows]))
            self.assertEqual(parting_of(rows) is None, told != ())
        # Round ones, turned a little each: many corners.
        round_one = ((-1000, -414), (-1000, 414), (-414, -1000), (-414, 1000), (414, -1000), (414, 1000), (1000, -414),
                     (1000, 414))
        rows = tuple([tuple(sorted([((100 * x - k * y) // 110, (100 * y + k * x) // 110) for x, y in round_one]))
                      for k in range(20)])
        told = meet_of(rows)
        self.assertGreater(len(told), 20)
        for point in told:
            self.assertTrue(all([in_hull(row, point) for row in rows]))
        self.assertIsNone(parting_of(rows))
        self.assertLess(time.monotonic() - started, 40)


class Partings(unittest.TestCase):
    def parted(self, rows):
        """How many rows part them, or None, where all that is told of them holds."""
        told = parting_of(rows)
        self.assertEqual(told is None, meet_of(rows) != (), rows)
        self.assertEqual(told is None, candidates(rows) != [], rows)
        if told is None:
            return None
        self.assertEqual((type(told), len(told), kinds_in(told)), (tuple, 2, {tuple, int}))
        some, slopes = told
        self.assertLessEqual(set(some), set(rows))
        self.assertEqual(len(set(some)), len(some))
        self.assertIn(len(some), (2, 3))
        self.assertEqual(len(slopes), len(some))
        self.assertTrue(all([len(slope) == 2 and slope != (0, 0) for slope in slopes]))
        self.assertEqual((sum([slope[0] for slope in slopes]), sum([slope[1] for slope in slopes])), (0, 0))
        falls = [min([value(slope, cell) for cell in row]) for row, slope in zip(some, slopes)]
        self.assertGreaterEqual(sum(falls), 1)
        return len(some)

    def test_one_row(self):
        for row in (SQUARE, ((3, -4),), ((0, 3), (1, 2), (2, 1))):
            self.assertIsNone(self.parted((row,)))
            self.assertIsNone(self.parted((row,) * 5))

    def test_two_rows_apart(self):
        for by in ((5, 0), (-5, 0), (0, 5), (0, -5), (5, 5), (-7, 6), (5, -9), (1000, 1000)):
            self.assertEqual(self.parted((SQUARE, moved(SQUARE, by))), 2)
            self.assertEqual(self.parted((SQUARE, moved(SQUARE, by), SQUARE, SQUARE)), 2)

    def test_rows_that_touch(self):
        for by in ((4, 0), (0, -4), (4, 4), (-4, 4), (4, 1), (0, 0), (2, 2)):
            self.assertIsNone(self.parted((SQUARE, moved(SQUARE, by))))
        self.assertIsNone(self.parted((((0, 0), (1, 1)), ((0, 1), (1, 0)))))
        self.assertIsNone(self.parted((((0, 0), (6, 0)), ((0, 0), (2, 4)), ((-1, 0), (0, 0), (0, 3)))))

    def test_three_rows_of_which_each_two_meet(self):
        sides = (((0, 0), (6, 0)), ((0, 0), (3, 6)), ((3, 6), (6, 0)))
        thick = (((0, 0), (3, -1), (6, 0)), ((0, 0), (0, 5), (3, 6)), ((3, 6), (6, 0), (6, 5)))
        for rows in (sides, thick):
            for turned in itertools.permutations(rows):
                self.assertEqual(self.parted(turned), 3)
                self.assertEqual(self.parted((SQUARE + ((-9, -9), (9, 9)),) + turned), 3)
            for pair in itertools.combinations(rows, 2):
                self.assertIsNone(self.parted(pair))

    def test_a_hair_apart(self):
        # Hulls that come very near one another.
        self.assertEqual(self.parted((((0, 0), (1, 1)), ((0, 1), (0, 2)))), 2)
        self.assertEqual(self.parted((((-1000, -999), (1000, 998)), ((0, 0), (0, 1)))), 2)
        self.assertEqual(self.parted((((-1000, -999), (999, 1000)), ((-1000, -998), (998, 1000)))), 2)
        self.assertEqual(self.parted((((-1000, 0), (1000, 1)), ((-1000, 0), (999, 1)), ((0, 0), (0, 1), (1, 1)))), 3)

    def test_on_one_line(self):
        for step in ((1, 0), (0, 1), (2, 3), (-1, 4)):
            row = [(k * step[0], k * step[1]) for k in range(8)]
            one, other, third = [tuple(sorted(part)) for part in (row[:3], row[2:6], row[3:])]
            self.assertIsNone(self.parted((one, other)))
            self.assertEqual(self.parted((one, third)), 2)
            self.assertEqual(self.parted((one, other, third)), 2)

    def test_single_cells(self):
        self.assertIsNone(self.parted((((1, 2),), ((1, 2),))))
        for cell in ((2, 2), (0, 2), (1, 3), (1, 1), (5, -7), (0, 0)):
            self.assertEqual(self.parted((((1, 2),), (cell,))), 2)
        self.assertEqual(self.parted((((1, 2),), SQUARE, ((1, 3),))), 2)
        self.assertIsNone(self.parted((((1, 2),), SQUARE)))
        self.assertEqual(self.parted((SQUARE, ((5, 2),))), 2)
        self.assertEqual(self.parted((((5, 2),), SQUARE)), 2)

    def test_by_chance(self):
        chance = random.Random(25)
        told = []
        for turn in range(300):
            told.append(self.parted(chance_rows(chance, 4, 4, chance.choice((1, 2, 4, 1000)))))
        for many in (None, 2, 3):
            self.assertGreater(told.count(many), 20)

    def test_healing_rows(self):
        chance = random.Random(251)
        for turn in range(100):
            plain = chance_plain(chance, {chance_cell(chance, 2) for k in range(5)})
            self.parted(exchanged(plain))

    def test_great_numbers(self):
        far = 10 ** 30
        rows = (((-far, 0), (far, 1)), ((-far, 1), (far, 2)))
        self.assertEqual(self.parted(rows), 2)
        self.assertEqual(meet_of((((-far, -far), (far, far)), ((-far, far), (far, -far)))), whole((0, 0)))


class AskedAgain(unittest.TestCase):
    def test_told_the_same(self):
        chance = random.Random(252)
        sets = [chance_rows(chance, 4, 5, 3) for turn in range(20)]

        def ask():
            return [(meet_of(rows), parting_of(rows)) for rows in sets]

        self.assertEqual(ask(), ask())


if __name__ == "__main__":
    unittest.main()
