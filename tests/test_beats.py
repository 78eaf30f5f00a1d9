"""Islands stepped by plain rules."""

import itertools
import random
import time
import unittest

from healfloor.beats import beat, beats, whole_behind
from healfloor.errors import TooMany
from healfloor.islands import together
from healfloor.plain import plain_of
from helpers import all_broken, cells_of, chance_cell, chance_plain, chance_rule, kinds_in

FAR = 10 ** 18
HERE = (((0, 0),),)
PAIR = (((0, 0), (1, 0)),)
EAST = (((1, 0),),)
SPREAD = (((-1, 0),), ((0, 0),), ((1, 0),))
# Of the cell, its east and its north two: heals every island.
TOOM = (((0, 0), (0, 1)), ((0, 0), (1, 0)), ((0, 1), (1, 0)))
# Of the cell and those around it three: a square lives.
AROUND = tuple(itertools.combinations(((-1, 0), (0, -1), (0, 0), (0, 1), (1, 0)), 3))


def square(side):
    return tuple([(x, y) for x in range(side) for y in range(side)])


def by_hand(plain, island):
    """All cells anywhere near are asked, one by one."""
    broken = set(island)
    near = {(cell[0] - beside[0], cell[1] - beside[1]) for cell in island for beside in cells_of(plain)}
    told = [(x, y) for x, y in near
            if any([all([(x + i, y + j) in broken for i, j in row]) for row in plain])]
    return tuple(sorted(told))


class Beat(unittest.TestCase):
    def test_known(self):
        island = ((0, 0), (1, 0), (2, 0), (4, 0))
        self.assertEqual(beat(HERE, island), island)
        self.assertEqual(beat(PAIR, island), ((0, 0), (1, 0)))
        self.assertEqual(beat(EAST, island), ((-1, 0), (0, 0), (1, 0), (3, 0)))
        self.assertEqual(beat(SPREAD, ((0, 0), (5, 5))), ((-1, 0), (0, 0), (1, 0), (4, 5), (5, 5), (6, 5)))
        self.assertEqual(beat(TOOM, ((0, 0), (0, 1), (1, 0))), ((0, 0),))
        self.assertEqual(beat(TOOM, ((0, 0),)), ())
        self.assertEqual(beat(TOOM, ((0, 1), (1, 0))), ((0, 0),))
        self.assertEqual(beat(AROUND, square(2)), square(2))

    def test_empty(self):
        for plain in (HERE, PAIR, SPREAD, TOOM):
            self.assertEqual(beat(plain, ()), ())

    def test_far_out(self):
        for x, y in itertools.product((FAR, -FAR), (FAR, -FAR)):
            self.assertEqual(beat(PAIR, ((x, y), (x + 1, y))), ((x, y),))
            self.assertEqual(beat((((-1000, 1000),),), ((x, y),)), ((x + 1000, y - 1000),))
        wide = (((-FAR, 0), (FAR, 0)),)
        self.assertEqual(beat(wide, ((-FAR, 7), (FAR, 7))), ((0, 7),))

    def test_islands_apart_from_one_another(self):
        island = ((-FAR, 0), (-FAR + 1, 0), (FAR, 0), (FAR + 1, 0))
        self.assertEqual(beat(PAIR, island), ((-FAR, 0), (FAR, 0)))

    def test_by_chance(self):
        chance = random.Random(16)
        for turn in range(300):
            plain = chance_plain(chance, {chance_cell(chance, 1) for k in range(chance.randint(1, 6))})
            island = tuple(sorted({chance_cell(chance, 2) for k in range(chance.randint(0, 25))}))
            told = beat(plain, island)
            self.assertEqual(told, by_hand(plain, island))
            self.assertLessEqual(kinds_in(told), {tuple, int})

    def test_as_the_rule_itself(self):
        chance = random.Random(161)
        taken = 0
        for turn in range(200):
            rule = chance_rule(chance, 4)
            island = tuple(sorted({chance_cell(chance, 2) for k in range(chance.randint(0, 20))}))
            try:
                plain = plain_of(rule)
            except TooMany:
                continue
            taken += 1
            self.assertEqual(beat(plain, island), tuple(sorted(all_broken(rule, set(island)))))
        self.assertGreater(taken, 100)

    def test_more_broken_cells_mend_none(self):
        chance = random.Random(1616)
        for turn in range(100):
            plain = chance_plain(chance, {chance_cell(chance, 1) for k in range(chance.randint(1, 5))})
            one, other = [tuple(sorted({chance_cell(chance, 2) for k in range(15)})) for k in range(2)]
            for many in (1, 2, 3):
                greater = beats(plain, together(one, other), many)
                self.assertLessEqual(set(beats(plain, one, many)), set(greater))


class Beats(unittest.TestCase):
    def test_none(self):
        for plain in (HERE, PAIR, EAST):
            for island in ((), ((0, 0),), square(3)):
                told = beats(plain, island, 0)
                self.assertEqual(told, island)
                self.assertIs(type(told), tuple)

    def test_one_behind_the_other(self):
        row = tuple([(x, 0) for x in range(10)])
        for many in range(13):
            self.assertEqual(beats(PAIR, row, many), row[:max(0, 10 - many)])
            self.assertEqual(beats(EAST, ((0, 0),), many), ((-many, 0),))
            self.assertEqual(beats(SPREAD, ((FAR, -FAR),), many),
                             tuple([(FAR + x, -FAR) for x in range(-many, many + 1)]))

    def test_by_single_beats(self):
        chance = random.Random(162)
        for turn in range(60):
            plain = chance_plain(chance, {chance_cell(chance, 1) for k in range(chance.randint(1, 5))})
            island = tuple(sorted({chance_cell(chance, 2) for k in range(15)}))
            here = island
            for many in range(6):
                self.assertEqual(beats(plain, island, many), here)
                here = by_hand(plain, here)

    def test_sixty_beats_of_a_thousand_cells(self):
        eight = tuple([(x, y) for x in (-1, 0) for y in (-1, 0, 1, 2)])
        four, five = [tuple(itertools.combinations(eight, many)) for many in (4, 5)]
        island = tuple([(x + FAR, y - FAR) for x in range(30) for y in range(33)])
        wanted = island
        for many in range(20):
            wanted = by_hand(five, wanted)
        started = time.monotonic()
        self.assertEqual(beats(five, island, 20), wanted)
        self.assertLessEqual(len(beats(five, island, 60)), 1000)
        self.assertGreaterEqual(len(beats(four, island, 60)), 1000)
        self.assertIsNone(whole_behind(AROUND, square(31), 60))
        self.assertLess(time.monotonic() - started, 40)


class Whole(unittest.TestCase):
    def test_empty(self):
        for plain in (HERE, PAIR, TOOM):
            for most in (0, 1, 60):
                told = whole_behind(plain, (), most)
                self.assertEqual(told, 0)
                self.assertIs(type(told), int)

    def test_behind_just_the_most(self):
        for many in (1, 2, 7, 60):
            row = tuple([(x, 0) for x in range(many)])
            self.assertEqual(whole_behind(PAIR, row, many), many)
            self.assertIsNone(whole_behind(PAIR, row, many - 1))
            self.assertEqual(whole_behind(PAIR, row, many + 1), many)
            self.assertEqual(whole_behind(PAIR, row, 60), many)

    def test_most_of_nought(self):
        self.assertIsNone(whole_behind(PAIR, ((0, 0),), 0))

    def test_never(self):
        self.assertIsNone(whole_behind(HERE, ((0, 0),), 60))
        self.assertIsNone(whole_behind(EAST, ((FAR, FAR),), 60))
        self.assertIsNone(whole_behind(AROUND, square(2), 60))

    def test_by_beats(self):
        chance = random.Random(163)
        for turn in range(60):
            plain = chance_plain(chance, {chance_cell(chance, 1) for k in range(chance.randint(1, 5))})
            island = tuple(sorted({chance_cell(chance, 2) for k in range(12)}))
            wanted = [many for many in range(7) if beats(plain, island, many) == ()]
            self.assertEqual(whole_behind(plain, island, 6), wanted[0] if wanted else None)


class AskedAgain(unittest.TestCase):
    def test_told_the_same(self):
        def ask():
            return [beat(TOOM, square(4)), beats(TOOM, square(4), 3), whole_behind(TOOM, square(4), 20),
                    beats(AROUND, square(3), 5)]

        first = ask()
        beats(SPREAD, square(3), 5)
        self.assertEqual(ask(), first)


if __name__ == "__main__":
    unittest.main()
