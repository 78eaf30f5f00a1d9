"""Living papers carried along with their rules, and made greater."""

import random
import unittest

from healfloor.changes import plain_carried, plain_led
from healfloor.living import land_of, living_holds
from healfloor.livingmore import living_carried, living_greater, living_led
from healfloor.meets import meet_of
from healfloor.rows import exchanged
from helpers import (as_numbers, as_point, chance_cell, chance_plain, chance_table, kinds_in, lives_by_hand, swapped)

GREAT = 10 ** 30
STILL = (((0, 0),),)
STILL_PAPER = ("lives", ((0, 1), (0, 1)), ((0, 0), (1, 0), (1, 1), (0, 1)), (0, 0), (0, 0), STILL * 4)
# Each piece has a row of its own, with a further cell inward: so a row put to another piece doesn't hold.
FOUR = tuple(sorted([((0, -1),), ((0, 1),), ((-1, 0),), ((1, 0),)]))
FOUR_PAPER = ("lives", ((0, 1), (0, 1)), ((0, 0), (6, 0), (6, 6), (0, 6)), (3, 3), (2, 1),
              (((0, 2), (0, 1)), ((-1, 0),), ((0, -1), (0, -1)), ((1, 0),)))
TABLES = ((1, 0, 0, 1), (2, 0, 0, 1), (0, 1, 1, 0), (0, -1, 1, 0), (1, 2, 3, 4), (4, 3, 2, 1), (-9, 8, 7, -9),
          (9, -9, 9, 9), (-3, 0, 0, -3), (5, 0, 7, -2), (9, 8, 8, 7), (-9, -8, 8, 7), (1, 9, 0, -1), (1, 9, 0, 1))


def chance_papers(seed, many, fars=(1, 2)):
    """Rules that live, by chance, each with a paper that holds."""
    chance = random.Random(seed)
    told = [(STILL, STILL_PAPER), (FOUR, FOUR_PAPER)]
    while len(told) < many:
        far = chance.choice(fars)
        plain = chance_plain(chance, {chance_cell(chance, far) for k in range(chance.randint(1, 6))})
        corners = meet_of(exchanged(plain))
        if corners:
            told.append((plain, land_of(plain, chance.choice(corners))))
    return told


def led_by_hand(table, cell):
    return (table[0] * cell[0] + table[1] * cell[1], table[2] * cell[0] + table[3] * cell[1])


class Carried(unittest.TestCase):
    def test_known(self):
        self.assertTrue(living_holds(FOUR, FOUR_PAPER))
        self.assertEqual(living_carried(STILL_PAPER, (3, -2)),
                         ("lives", ((3, 1), (-2, 1))) + STILL_PAPER[2:5] + ((((3, -2),),) * 4,))
        half = swapped(STILL_PAPER, 1, ((1, 2), (-2, 3)))
        self.assertEqual(living_carried(half, (3, -2))[1], ((7, 2), (-8, 3)))

    def test_each_cell_in_its_place(self):
        self.assertEqual(living_carried(FOUR_PAPER, (-5, GREAT)),
                         ("lives", ((-5, 1), (GREAT, 1))) + FOUR_PAPER[2:5] +
                         ((((-5, 2 + GREAT), (-5, 1 + GREAT)), ((-6, GREAT),),
                           ((-5, GREAT - 1), (-5, GREAT - 1)), ((-4, GREAT),)),))

    def test_holds(self):
        for plain, paper in chance_papers(31, 40):
            for by in ((0, 0), (1, 0), (-7, 3), (1000, -1000)):
                told = living_carried(paper, by)
                self.assertTrue(living_holds(plain_carried(plain, by), told), (plain, by))
                self.assertEqual(told[2:5], paper[2:5])
                v = as_numbers(paper[1])
                self.assertEqual(told[1], as_point((v[0] + by[0], v[1] + by[1])))
        self.assertTrue(lives_by_hand(plain_carried(FOUR, (8, 9)), living_carried(FOUR_PAPER, (8, 9))))


class Led(unittest.TestCase):
    def led(self, plain, paper, table):
        """The paper told, where all that is told of it holds."""
        told = living_led(paper, table)
        self.assertEqual(kinds_in(told), {tuple, int, str})
        self.assertTrue(living_holds(plain_led(plain, table), told), (plain, table))
        self.assertEqual(told[0], "lives")
        v = as_numbers(paper[1])
        self.assertEqual(as_numbers(told[1]), led_by_hand(table, v))
        ring = [led_by_hand(table, cell) for cell in paper[2]]
        rows = [tuple([led_by_hand(table, cell) for cell in row]) for row in paper[5]]
        self.same_pieces(ring, rows, led_by_hand(table, paper[3]), told)
        return told

    def same_pieces(self, ring, rows, o, told):
        """Each led piece is there, so many times as great, with its row, and no other one."""
        spans = [max([abs(number) for cell in cells for number in cell]) for cells in (ring, told[2])]
        many = spans[1] // spans[0]
        self.assertGreaterEqual(many, 1)
        self.assertEqual(told[3], (many * o[0], many * o[1]))

        def pieces(ring, rows, times):
            told = []
            for one, other, row in zip(ring, ring[1:] + ring[:1], rows, strict=True):
                ends = sorted([(times * one[0], times * one[1]), (times * other[0], times * other[1])])
                told.append((ends, row))
            return sorted(told)

        self.assertEqual(pieces(told[2], told[5], 1), pieces(ring, rows, many))

    def test_as_it_is(self):
        for plain, paper in chance_papers(311, 20):
            self.assertEqual(set(self.led(plain, paper, (1, 0, 0, 1))[2]), set(paper[2]))

    def test_tables(self):
        chance = random.Random(312)
        pairs = chance_papers(313, 25)
        for table in TABLES + tuple([chance_table(chance, 9) for k in range(20)]):
            for plain, paper in pairs:
                self.led(plain, paper, table)

    def test_by_hand(self):
        for table in TABLES:
            self.assertTrue(lives_by_hand(plain_led(FOUR, table), self.led(FOUR, FOUR_PAPER, table)))
            self.assertTrue(lives_by_hand(STILL, self.led(STILL, STILL_PAPER, table)))

    def test_far_apart(self):
        chance = random.Random(314)
        for plain, paper in chance_papers(315, 25, (1000,)):
            self.led(plain, paper, chance_table(chance, 9))

    def test_narrow_lands(self):
        # What is left of the square is thin: without growing no square has room in it.
        for table in ((1, 9, 0, 1), (9, 8, 8, 7), (-9, 8, 8, -7), (1, 0, 9, -1)):
            told = self.led(STILL, STILL_PAPER, table)
            self.assertNotEqual(max(told[2]), max([led_by_hand(table, cell) for cell in STILL_PAPER[2]]))

    def test_great_numbers(self):
        by = (GREAT, 1 - GREAT)
        far = living_greater(living_carried(STILL_PAPER, by), 1000)
        for table in TABLES:
            self.led(((by,),), far, table)

    def test_squares_elsewhere(self):
        wide = swapped(STILL_PAPER, 2, ((0, 0), (5, 0), (5, 5), (0, 5)))
        for table in ((1, 9, 0, 1), (9, 8, 8, 7), (2, 1, 1, -1), (0, 1, 1, 0)):
            for q in ((0, 0), (4, 0), (0, 4), (4, 4), (2, 3)):
                self.led(STILL, swapped(wide, 4, q), table)

    def test_twice(self):
        told = self.led(FOUR, FOUR_PAPER, (1, 2, 3, 4))
        self.led(plain_led(FOUR, (1, 2, 3, 4)), told, (4, 3, 2, 1))


class Greater(unittest.TestCase):
    def test_known(self):
        self.assertEqual(living_greater(FOUR_PAPER, 2),
                         ("lives", FOUR_PAPER[1], ((0, 0), (12, 0), (12, 12), (0, 12)), (6, 6), (4, 2), FOUR_PAPER[5]))
        self.assertEqual(living_greater(FOUR_PAPER, 1), FOUR_PAPER)

    def test_holds(self):
        for plain, paper in chance_papers(316, 40, (1, 2, 1000)):
            for many in (1, 2, 3, 1000):
                told = living_greater(paper, many)
                self.assertTrue(living_holds(plain, told))
                self.assertEqual(told[:2] + told[5:], paper[:2] + paper[5:])
                self.assertEqual(told[2], tuple([(many * x, many * y) for x, y in paper[2]]))
                self.assertEqual(told[3:5], tuple([(many * x, many * y) for x, y in paper[3:5]]))
        self.assertTrue(lives_by_hand(FOUR, living_greater(FOUR_PAPER, 7)))

    def test_again_and_again(self):
        paper = FOUR_PAPER
        for turn in range(40):
            paper = living_greater(paper, 1000)
        self.assertEqual(paper[3], (3 * 1000 ** 40, 3 * 1000 ** 40))
        self.assertTrue(living_holds(FOUR, paper))


class AskedAgain(unittest.TestCase):
    def test_told_the_same(self):
        pairs = chance_papers(317, 15)

        def ask():
            return [(living_carried(paper, (1, 2)), living_led(paper, (1, 2, 3, 4)), living_greater(paper, 3))
                    for plain, paper in pairs]

        self.assertEqual(ask(), ask())
        self.assertLessEqual(kinds_in(ask()), {list, tuple, int, str})


if __name__ == "__main__":
    unittest.main()
