"""Steps of slopes, and the numbers beyond which nothing is broken."""

import itertools
import random
import unittest

from healfloor.beats import beat, beats
from healfloor.changes import behind, plain_carried, plain_led, so_often
from healfloor.errors import TooMany
from healfloor.islands import outermost
from healfloor.rows import is_healing
from healfloor.steps import beyond, step_of
from helpers import cells_of, chance_cell, chance_plain, chance_table, kinds_in, some_of, value

FAR = 10 ** 18
GREAT = 10 ** 6
PAIR = (((0, 0), (1, 0)),)
EITHER = (((0, 0),), ((1, 0),))
TOOM = (((0, 0), (0, 1)), ((0, 0), (1, 0)), ((0, 1), (1, 0)))
SLOPES = ((0, 0), (1, 0), (-1, 0), (0, 1), (0, -1), (2, 3), (-3, 1), (1, 1), (-1, -1), (GREAT, -GREAT), (-GREAT, GREAT))


def step_by_hand(plain, slope):
    """The step by all healing rows, and by all breaking rows."""
    healing = [row for row in some_of(cells_of(plain)) if is_healing(plain, row)]
    most = max([min([value(slope, cell) for cell in row]) for row in healing])
    least = min([max([value(slope, cell) for cell in row]) for row in plain])
    return most, least


class Steps(unittest.TestCase):
    def shown(self, plain, slope):
        """The step, where all that is told of it holds."""
        told = step_of(plain, slope)
        self.assertEqual((type(told), len(told), kinds_in(told)), (tuple, 3, {tuple, int}))
        step, healing, breaking = told
        self.assertEqual((step, step), step_by_hand(plain, slope))
        self.assertIs(type(step), int)
        self.assertIn(breaking, plain)
        self.assertTrue(healing)
        self.assertEqual(list(healing), sorted(set(healing)))
        self.assertTrue(is_healing(plain, healing))
        self.assertTrue(all([value(slope, cell) >= step for cell in healing]))
        self.assertTrue(all([value(slope, cell) <= step for cell in breaking]))
        return step

    def test_known(self):
        self.assertEqual(self.shown(PAIR, (1, 0)), 1)
        self.assertEqual(self.shown(PAIR, (-1, 0)), 0)
        self.assertEqual(self.shown(EITHER, (1, 0)), 0)
        self.assertEqual(self.shown(EITHER, (-1, 0)), -1)
        self.assertEqual(self.shown(TOOM, (1, 0)), 0)
        self.assertEqual(self.shown(TOOM, (0, 1)), 0)
        self.assertEqual(self.shown(TOOM, (-1, -1)), -1)
        self.assertEqual(self.shown(TOOM, (1, 1)), 1)
        self.assertEqual(step_of(PAIR, (1, 0)), (1, ((1, 0),), PAIR[0]))

    def test_each_slope(self):
        for plain in (PAIR, EITHER, TOOM, (((5, -7),),)):
            self.assertEqual(self.shown(plain, (0, 0)), 0)
            for slope in SLOPES:
                self.shown(plain, slope)
        self.assertEqual(self.shown((((5, -7),),), (GREAT, -GREAT)), 12 * GREAT)
        self.assertEqual(self.shown((((-1000, 1000),),), (GREAT, -GREAT)), -2000 * GREAT)

    def test_by_chance(self):
        chance = random.Random(19)
        for turn in range(200):
            plain = chance_plain(chance, {chance_cell(chance, chance.choice((1, 3, 1000))) for k in range(5)})
            far = chance.choice((2, 9, GREAT))
            self.shown(plain, chance_cell(chance, far))

    def test_eight_cells(self):
        eight = tuple([(x, y) for x in range(2) for y in range(4)])
        for many in range(1, 9):
            plain = tuple(itertools.combinations(eight, many))
            worths = sorted([value((2, 3), cell) for cell in eight])
            self.assertEqual(self.shown(plain, (2, 3)), worths[many - 1])

    def test_islands_fall_by_the_step(self):
        chance = random.Random(191)
        for turn in range(200):
            plain = chance_plain(chance, {chance_cell(chance, 1) for k in range(4)})
            island = tuple(sorted({chance_cell(chance, 2) for k in range(15)}))
            slope = chance_cell(chance)
            later = beat(plain, island)
            if later != ():
                self.assertLessEqual(outermost(later, slope), outermost(island, slope) - step_of(plain, slope)[0])

    def test_half_floors(self):
        chance = random.Random(192)
        for turn in range(40):
            plain = chance_plain(chance, {chance_cell(chance, 2) for k in range(4)})
            slope, most = chance_cell(chance), chance.randint(-3, 3)
            window = list(itertools.product(range(-7, 8), range(-7, 8)))
            half = tuple([cell for cell in window if value(slope, cell) <= most])
            step = step_of(plain, slope)[0]
            # What lies two or more within the window's edge sees nothing of what was cut off.
            inner = [cell for cell in window if max(abs(cell[0]), abs(cell[1])) <= 5]
            later = set(beat(plain, half))
            for cell in inner:
                self.assertEqual(cell in later, value(slope, cell) <= most - step)


class TogetherAndCarried(unittest.TestCase):
    def chances(self, seed, most):
        chance = random.Random(seed)
        for turn in range(150):
            plains = [chance_plain(chance, {chance_cell(chance, 1) for k in range(most)}) for k in range(2)]
            yield chance, plains[0], plains[1], chance_cell(chance, 9)

    def test_behind_one_another(self):
        taken = 0
        for chance, one, other, slope in self.chances(20, 3):
            try:
                both = behind(one, other)
            except TooMany:
                continue
            taken += 1
            self.assertEqual(step_of(both, slope)[0], step_of(one, slope)[0] + step_of(other, slope)[0])
        self.assertGreater(taken, 40)

    def test_so_many_times(self):
        taken = 0
        for chance, plain, other, slope in self.chances(201, 2):
            many = chance.randint(1, 8)
            try:
                often = so_often(plain, many)
            except TooMany:
                continue
            taken += 1
            self.assertEqual(step_of(often, slope)[0], many * step_of(plain, slope)[0])
        self.assertGreater(taken, 40)

    def test_carried(self):
        for chance, plain, other, slope in self.chances(202, 5):
            by = chance_cell(chance, 1000)
            self.assertEqual(step_of(plain_carried(plain, by), slope)[0], step_of(plain, slope)[0] + value(slope, by))

    def test_led(self):
        for chance, plain, other, slope in self.chances(203, 5):
            a, b, c, d = chance_table(chance)
            drawn = (slope[0] * a + slope[1] * c, slope[0] * b + slope[1] * d)
            self.assertEqual(step_of(plain_led(plain, (a, b, c, d)), slope)[0], step_of(plain, drawn)[0])


class Beyond(unittest.TestCase):
    def test_known(self):
        island = ((0, 0), (3, 1), (5, -2))
        self.assertEqual(beyond(PAIR, island, ((1, 0), (-1, 0), (0, 1)), 4), (1, 0, 1))
        self.assertEqual(beyond(EITHER, island, ((1, 0), (-1, 0)), 4), (5, 4))
        self.assertEqual(beyond(PAIR, island, ((1, 0), (1, 0)), 1), (4, 4))

    def test_no_beats(self):
        island = ((0, 0), (3, 1), (5, -2))
        self.assertEqual(beyond(TOOM, island, SLOPES, 0), tuple([outermost(island, slope) for slope in SLOPES]))

    def test_many_beats(self):
        island = ((-FAR, FAR), (FAR, 0))
        self.assertEqual(beyond(PAIR, island, ((1, 0), (-1, 0)), FAR), (0, FAR))
        self.assertEqual(beyond(EITHER, island, ((-GREAT, 0),), FAR), (2 * FAR * GREAT,))
        self.assertEqual(beyond(PAIR, ((0, 0),), ((GREAT, 0),), FAR), (-FAR * GREAT,))

    def test_empty(self):
        self.assertEqual(beyond(PAIR, (), ((1, 0), (0, 1), (0, 0)), 7), (None, None, None))
        self.assertEqual(beyond(PAIR, (), ((1, 0),), 0), (None,))

    def test_no_slopes(self):
        self.assertEqual(beyond(PAIR, ((0, 0),), (), 3), ())
        self.assertEqual(beyond(PAIR, (), (), 3), ())

    def test_nothing_is_broken_beyond(self):
        chance = random.Random(204)
        for turn in range(100):
            plain = chance_plain(chance, {chance_cell(chance, 1) for k in range(4)})
            island = tuple(sorted({chance_cell(chance, 2) for k in range(12)}))
            for many in range(4):
                later = beats(plain, island, many)
                told = beyond(plain, island, SLOPES, many)
                self.assertEqual((type(told), kinds_in(told)), (tuple, {tuple, int}))
                for slope, number in zip(SLOPES, told):
                    self.assertEqual(number, outermost(island, slope) - many * step_of(plain, slope)[0])
                    self.assertTrue(all([value(slope, cell) <= number for cell in later]))


class AskedAgain(unittest.TestCase):
    def test_told_the_same(self):
        def ask():
            return [step_of(TOOM, slope) for slope in SLOPES] + [beyond(TOOM, ((1, 2),), SLOPES, 9)]

        self.assertEqual(ask(), ask())


if __name__ == "__main__":
    unittest.main()
