"""Islands: made, put together, carried, led, cut."""

import itertools
import random
import unittest

from healfloor.islands import both_of, cut, island_carried, island_led, island_of, outermost, together, without
from helpers import chance_cell, chance_table, kinds_in, value

FAR = 10 ** 18
A, B, C, D = (-2, 5), (0, -1), (0, 3), (4, 0)
CORNERS = ((-FAR, -FAR), (-FAR, FAR), (FAR, -FAR), (FAR, FAR))
SLOPES = ((0, 0), (1, 0), (0, 1), (-1, 0), (2, -3), (-10 ** 6, 10 ** 6))


def chance_island(chance, most=12):
    return tuple(sorted({chance_cell(chance) for k in range(chance.randint(0, most))}))


class Made(unittest.TestCase):
    def test_in_any_order_and_doubled(self):
        for cells in itertools.permutations((A, B, C, D)):
            for given in (cells, list(cells), cells + cells, list(cells + cells[1:3])):
                told = island_of(given)
                self.assertEqual(told, (A, B, C, D))
                self.assertIs(type(told), tuple)

    def test_one_and_none(self):
        for given in ((), []):
            self.assertEqual(island_of(given), ())
            self.assertIs(type(island_of(given)), tuple)
        for given in ((A,), [A], (A, A, A), [A, A]):
            self.assertEqual(island_of(given), (A,))

    def test_far_out(self):
        self.assertEqual(island_of(CORNERS[::-1] * 2), CORNERS)
        self.assertEqual(island_of([(FAR, FAR), (FAR, FAR - 1), (FAR - 1, FAR)]),
                         ((FAR - 1, FAR), (FAR, FAR - 1), (FAR, FAR)))

    def test_lists_stay_the_askers_own(self):
        given = [D, A, D, C]
        kept = list(given)
        told = island_of(given)
        self.assertEqual(given, kept)
        given.append(B)
        given[0] = B
        self.assertEqual(told, (A, C, D))
        self.assertEqual(island_of(kept), told)

    def test_four_hundred_cells(self):
        cells = [(x, y) for x in range(20) for y in range(20)]
        self.assertEqual(island_of(cells[::-1] + cells), tuple(cells))


class Two(unittest.TestCase):
    def test_known(self):
        one, other = (A, B, C), (B, D)
        self.assertEqual(together(one, other), (A, B, C, D))
        self.assertEqual(both_of(one, other), (B,))
        self.assertEqual(without(one, other), (A, C))
        self.assertEqual(without(other, one), (D,))

    def test_empty_ones(self):
        for one in ((), (A,), (A, B, C)):
            self.assertEqual(together(one, ()), one)
            self.assertEqual(together((), one), one)
            self.assertEqual(both_of(one, ()), ())
            self.assertEqual(both_of((), one), ())
            self.assertEqual(without(one, ()), one)
            self.assertEqual(without((), one), ())

    def test_with_itself(self):
        one = (A, B, C)
        self.assertEqual((together(one, one), both_of(one, one), without(one, one)), (one, one, ()))

    def test_far_out(self):
        one, other = CORNERS[:3], CORNERS[2:]
        self.assertEqual(together(one, other), CORNERS)
        self.assertEqual(both_of(one, other), CORNERS[2:3])
        self.assertEqual(without(one, other), CORNERS[:2])

    def test_by_chance(self):
        chance = random.Random(14)
        for turn in range(200):
            one, other = chance_island(chance), chance_island(chance)
            self.assertEqual(together(one, other), tuple(sorted(set(one) | set(other))))
            self.assertEqual(both_of(one, other), tuple([cell for cell in one if cell in other]))
            self.assertEqual(without(one, other), tuple([cell for cell in one if cell not in other]))
            for told in (together(one, other), both_of(one, other), without(one, other)):
                self.assertLessEqual(kinds_in(told), {tuple, int})


class Moved(unittest.TestCase):
    def test_carried(self):
        self.assertEqual(island_carried((A, B, C, D), (0, 0)), (A, B, C, D))
        self.assertEqual(island_carried((A, B, C, D), (-3, 10)), ((-5, 15), (-3, 9), (-3, 13), (1, 10)))
        self.assertEqual(island_carried((), (5, 5)), ())
        self.assertEqual(island_carried(CORNERS, (FAR, -FAR)),
                         ((0, -2 * FAR), (0, 0), (2 * FAR, -2 * FAR), (2 * FAR, 0)))

    def test_led(self):
        self.assertEqual(island_led((A, B, C, D), (1, 0, 0, 1)), (A, B, C, D))
        self.assertEqual(island_led((), (0, 1, 1, 0)), ())
        self.assertEqual(island_led((D,), (1, 2, 3, 4)), ((4, 12),))

    def test_led_to_another_order(self):
        self.assertEqual(island_led((A, B, C, D), (-1, 0, 0, 1)), ((-4, 0), (0, -1), (0, 3), (2, 5)))
        self.assertEqual(island_led((A, B, C, D), (-1, 0, 0, -1)), ((-4, 0), (0, -3), (0, 1), (2, -5)))
        self.assertEqual(island_led((A, B, C, D), (0, 1, 1, 0)), ((-1, 0), (0, 4), (3, 0), (5, -2)))
        self.assertEqual(island_led((A, B, C, D), (0, -1, 1, 0)), ((-5, -2), (-3, 0), (0, 4), (1, 0)))
        self.assertEqual(island_led(CORNERS, (0, 1, -9, 0)),
                         ((-FAR, -9 * FAR), (-FAR, 9 * FAR), (FAR, -9 * FAR), (FAR, 9 * FAR)))

    def test_by_chance(self):
        chance = random.Random(141)
        for turn in range(200):
            island, table, by = chance_island(chance), chance_table(chance), chance_cell(chance, 1000)
            wanted = [(table[0] * x + table[1] * y, table[2] * x + table[3] * y) for x, y in island]
            self.assertEqual(island_led(island, table), tuple(sorted(wanted)))
            self.assertEqual(island_carried(island, by), tuple(sorted([(x + by[0], y + by[1]) for x, y in island])))


class Cut(unittest.TestCase):
    def test_at_a_cells_own_worth(self):
        island = ((0, 0), (1, 0), (2, 0), (3, 0))
        self.assertEqual(cut(island, (1, 0), 2), island[:3])
        self.assertEqual(cut(island, (-1, 0), -2), island[2:])
        for slope in SLOPES[1:]:
            for cell in (A, B, C, D) + CORNERS:
                most = value(slope, cell)
                self.assertEqual(cut((cell,), slope, most), (cell,))
                self.assertEqual(cut((cell,), slope, most + 1), (cell,))
                self.assertEqual(cut((cell,), slope, most - 1), ())

    def test_slope_nought(self):
        self.assertEqual(cut((A, B, C), (0, 0), 0), (A, B, C))
        self.assertEqual(cut((A, B, C), (0, 0), -1), ())

    def test_empty(self):
        self.assertEqual(cut((), (1, 2), 10 ** 30), ())

    def test_by_chance(self):
        chance = random.Random(1414)
        for turn in range(300):
            island, slope, most = chance_island(chance), chance_cell(chance), chance.randint(-6, 6)
            told = cut(island, slope, most)
            self.assertEqual(told, tuple([cell for cell in island if value(slope, cell) <= most]))
            self.assertIs(type(told), tuple)


class Outermost(unittest.TestCase):
    def test_empty(self):
        for slope in SLOPES:
            self.assertIsNone(outermost((), slope))

    def test_known(self):
        self.assertEqual(outermost((A, B, C, D), (1, 0)), 4)
        self.assertEqual(outermost((A, B, C, D), (-1, 0)), 2)
        self.assertEqual(outermost((A, B, C, D), (0, 1)), 5)
        self.assertEqual(outermost((A, B, C, D), (0, -1)), 1)
        self.assertEqual(outermost((A, B, C, D), (2, -3)), 8)
        self.assertEqual(outermost((A, B, C, D), (0, 0)), 0)

    def test_all_below_nought(self):
        self.assertEqual(outermost(((-5, 0), (-3, 0)), (1, 0)), -3)

    def test_far_out(self):
        self.assertEqual(outermost(CORNERS, (10 ** 6, -10 ** 6)), 2 * 10 ** 24)
        self.assertEqual(outermost(CORNERS[:1], (10 ** 6, 1)), -10 ** 24 - FAR)

    def test_by_chance(self):
        chance = random.Random(14141)
        for turn in range(200):
            island, slope = chance_island(chance), chance_cell(chance)
            wanted = sorted([value(slope, cell) for cell in island])[-1:] or [None]
            self.assertEqual(outermost(island, slope), wanted[0])
            most = outermost(island, slope)
            if most is not None:
                self.assertEqual(cut(island, slope, most), island)
                self.assertLess(len(cut(island, slope, most - 1)), len(island))


class AskedAgain(unittest.TestCase):
    def test_told_the_same(self):
        one, other = (A, B, C), (B, D)

        def ask():
            return [island_of([D, A, A]), together(one, other), both_of(one, other), without(one, other),
                    island_carried(one, (1, 2)), island_led(one, (0, 1, 1, 0)), cut(one, (1, 1), 2),
                    outermost(one, (1, 1)), outermost((), (1, 1))]

        self.assertEqual(ask(), ask())
        self.assertEqual((one, other), ((A, B, C), (B, D)))


if __name__ == "__main__":
    unittest.main()
