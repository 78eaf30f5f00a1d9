"""Living papers: when they hold, the cells that are broken at each beat, and papers told of rules and points."""

import itertools
import math
import random
import time
import unittest
from fractions import Fraction

from healfloor.beats import beat
from healfloor.lands import land_cells
from healfloor.living import cell_at, land_of, living_holds
from healfloor.meets import meet_of
from healfloor.rows import exchanged
from helpers import (as_numbers, as_point, chance_cell, chance_plain, in_hull_by_hand, in_land_by_hand, kinds_in,
                     lives_by_hand, swapped)

FAR = 10 ** 18
GREAT = 10 ** 30
NOUGHT = ((0, 1), (0, 1))
STILL = (((0, 0),),)
ROUND = ((0, 0), (1, 0), (1, 1), (0, 1))
STILL_PAPER = ("lives", NOUGHT, ROUND, (0, 0), (0, 0), STILL * 4)
HALF = (((0, 0),), ((1, 1),))
HALF_PAPER = ("lives", ((1, 2), (1, 2)), ((-2, -2), (-1, -2), (0, -1), (1, 0), (2, 1), (2, 2), (1, 2), (0, 1),
                                          (-1, 0), (-2, -1)), (0, 0), (0, 0),
              (((1, 1),),) * 3 + (((0, 0),),) * 5 + (((1, 1),),) * 2)
WAYS = (((1, 0),), ((0, 1),), ((-1, 0),), ((0, -1),))
DIAMOND_PAPER = ("lives", NOUGHT, ((-2, 0), (0, -2), (2, 0), (0, 2)), (0, 0), (0, 0),
                 (((1, 0),), ((0, 1),), ((-1, 0),), ((0, -1),)))


def turned(paper, start):
    """The paper with a ring that begins elsewhere."""
    ring, rows = paper[2], paper[5]
    return swapped(swapped(paper, 2, ring[start:] + ring[:start]), 5, rows[start:] + rows[:start])


def living_pairs(seed, many, cells=6, fars=(1, 2)):
    """Rules that live, by chance, each with a point that lies in the hulls of all healing rows."""
    chance = random.Random(seed)
    told = []
    while len(told) < many:
        far = chance.choice(fars)
        plain = chance_plain(chance, {chance_cell(chance, far) for k in range(chance.randint(1, cells))})
        corners = meet_of(exchanged(plain))
        if corners:
            told.append((plain, chance.choice(corners)))
    return told


class Holds(unittest.TestCase):
    def holds(self, plain, paper):
        told = living_holds(plain, paper)
        self.assertIs(type(told), bool)
        self.assertEqual(told, lives_by_hand(plain, paper), (plain, paper))
        return told

    def test_papers_that_hold(self):
        self.assertTrue(self.holds(STILL, STILL_PAPER))
        self.assertTrue(self.holds(HALF, HALF_PAPER))
        self.assertTrue(self.holds((((3, -2),),), swapped(swapped(STILL_PAPER, 1, ((3, 1), (-2, 1))), 5,
                                                        (((3, -2),),) * 4)))

    def test_wherever_the_ring_begins(self):
        for plain, paper in ((STILL, STILL_PAPER), (HALF, HALF_PAPER)):
            for start in range(len(paper[2])):
                self.assertTrue(self.holds(plain, turned(paper, start)))

    def test_of_another_rule(self):
        self.assertFalse(self.holds((((0, 0), (1, 0)),), STILL_PAPER))
        self.assertFalse(self.holds((((1, 0),),), STILL_PAPER))
        # The rule that breaks more has the papers of the one that breaks less.
        self.assertTrue(self.holds((((0, 0),), ((1, 0),)), STILL_PAPER))

    def test_neighbours_alike(self):
        for at in range(4):
            ring = ROUND[:at + 1] + ROUND[at:]
            self.assertFalse(self.holds(STILL, swapped(swapped(STILL_PAPER, 2, ring), 5, STILL * 5)))
        closed = ROUND + ROUND[:1]
        self.assertFalse(self.holds(STILL, swapped(swapped(STILL_PAPER, 2, closed), 5, STILL * 5)))
        # Alike, but no neighbours: twice around.
        self.assertTrue(self.holds(STILL, swapped(swapped(STILL_PAPER, 2, ROUND * 2), 5, STILL * 8)))

    def test_cells_on_one_line(self):
        ring = ((0, 0), (1, 0), (3, 0), (3, 2), (3, 3), (2, 3), (1, 3), (0, 3))
        self.assertTrue(self.holds(STILL, swapped(swapped(STILL_PAPER, 2, ring), 5, STILL * 8)))

    def test_how_many_rows(self):
        self.assertFalse(self.holds(STILL, swapped(STILL_PAPER, 5, STILL * 3)))
        self.assertFalse(self.holds(STILL, swapped(STILL_PAPER, 5, STILL * 5)))
        self.assertFalse(self.holds(STILL, swapped(STILL_PAPER, 5, ())))

    def test_rows_that_do_not_break(self):
        for at in range(4):
            rows = STILL * 4
            self.assertFalse(self.holds(STILL, swapped(STILL_PAPER, 5, swapped(rows, at, ()))))
            self.assertFalse(self.holds(STILL, swapped(STILL_PAPER, 5, swapped(rows, at, ((1, 0),)))))
        pair = (((0, 0), (1, 0)),)
        wide = swapped(swapped(STILL_PAPER, 2, ((0, 0), (4, 0), (0, 4))), 5, STILL * 3)
        self.assertFalse(self.holds(pair, wide))

    def test_ring_outside(self):
        # Not convex: a cell lies to the right of a side of its own ring.
        dented = ((0, 0), (4, 0), (4, 4), (2, 1), (0, 4))
        self.assertFalse(self.holds(STILL, swapped(swapped(STILL_PAPER, 2, dented), 5, STILL * 5)))
        self.assertFalse(self.holds(STILL, swapped(STILL_PAPER, 2, ((0, 0), (4, 4), (4, 0), (0, 4)))))
        self.assertFalse(self.holds(STILL, swapped(STILL_PAPER, 2, ROUND[::-1])))
        flat = ((0, 0), (4, 0), (2, 0))
        self.assertFalse(self.holds(STILL, swapped(swapped(STILL_PAPER, 2, flat), 5, STILL * 3)))

    def test_middle_outside(self):
        for o in ROUND:
            self.assertTrue(self.holds(STILL, swapped(STILL_PAPER, 3, o)))
        for o in ((-1, 0), (2, 0), (0, 2), (1, -1), (2, 2)):
            self.assertFalse(self.holds(STILL, swapped(STILL_PAPER, 3, o)))

    def test_square_outside(self):
        wide = swapped(STILL_PAPER, 2, ((0, 0), (4, 0), (4, 4), (0, 4)))
        for q in itertools.product(range(-2, 6), repeat=2):
            self.assertEqual(self.holds(STILL, swapped(wide, 4, q)), 0 <= q[0] <= 3 and 0 <= q[1] <= 3)
        # One corner of the square is out, whichever.
        slanted = swapped(STILL_PAPER, 2, ((-2, 0), (0, -2), (2, 0), (0, 2)))
        for q in ((-1, -1), (0, 0), (-1, 0), (0, -1)):
            self.assertTrue(self.holds(STILL, swapped(slanted, 4, q)))
        for q in ((-2, 0), (1, 0), (0, 1), (0, -2), (1, 1), (-2, -1), (-1, 1), (1, -1)):
            self.assertFalse(self.holds(STILL, swapped(slanted, 4, q)))

    def test_pieces_carried_outside(self):
        wide = swapped(STILL_PAPER, 2, ((0, 0), (4, 0), (4, 4), (0, 4)))
        wide = swapped(wide, 3, (2, 2))
        self.assertTrue(self.holds(STILL, wide))
        for at in range(4):
            inward = ((0, 1), (-1, 0), (0, -1), (1, 0))[at]
            for cell in ((1, 0), (0, 1), (-1, 0), (0, -1), (3, 3), (2 * inward[0], 2 * inward[1])):
                rows = swapped(STILL * 4, at, ((0, 0), cell))
                due = cell[0] * inward[1] == cell[1] * inward[0] and cell[0] * inward[0] + cell[1] * inward[1] > 0
                self.assertEqual(self.holds(STILL, swapped(wide, 5, rows)), due)
        # The corners stay, the middle goes out; and the other way about.
        tall = ("lives", NOUGHT, ((0, 0), (6, 0), (6, 6), (0, 6)), (3, 6), (0, 0), STILL * 4)
        self.assertTrue(self.holds(STILL, tall))
        self.assertFalse(self.holds(STILL, swapped(tall, 5, (((0, 0), (0, 1)),) + STILL * 3)))
        self.assertFalse(self.holds(WAYS, swapped(DIAMOND_PAPER, 5, DIAMOND_PAPER[5][1:] + DIAMOND_PAPER[5][:1])))

    def test_another_point(self):
        for v in (((1, 1), (0, 1)), ((0, 1), (-1, 1)), ((1, 10 ** 59), (0, 1)), ((0, 1), (-1, 10 ** 59))):
            self.assertFalse(self.holds(STILL, swapped(STILL_PAPER, 1, v)))
        for v in (((1, 2), (1, 3)), ((1, 2), (0, 1)), ((-1, 2), (-1, 2)), ((10 ** 59 + 1, 10 ** 59), (1, 1))):
            self.assertFalse(self.holds(HALF, swapped(HALF_PAPER, 1, v)))
        for v in (NOUGHT, ((1, 1), (1, 1)), ((1, 3), (1, 3))):
            self.assertTrue(self.holds(HALF, swapped(HALF_PAPER, 1, v)))

    def test_another_word(self):
        for word in ("heals", "live", "Lives", "", "lives "):
            self.assertFalse(self.holds(STILL, swapped(STILL_PAPER, 0, word)))
        self.assertIs(living_holds(STILL, ("heals", (((0, 0),),), ((0, 0),))), False)

    def test_short_rings(self):
        for ring in ((), ((0, 0),), ((0, 0), (4, 0))):
            self.assertFalse(self.holds(STILL, swapped(swapped(STILL_PAPER, 2, ring), 5, STILL * len(ring))))
        three = swapped(swapped(STILL_PAPER, 2, ((0, 0), (2, 0), (0, 2))), 5, STILL * 3)
        self.assertTrue(self.holds(STILL, three))

    def test_great_numbers(self):
        ring = tuple([(GREAT * x, GREAT * y) for x, y in ROUND])
        self.assertTrue(self.holds(STILL, swapped(STILL_PAPER, 2, ring)))
        self.assertTrue(self.holds(STILL, swapped(swapped(STILL_PAPER, 2, ring), 4, (GREAT - 1, GREAT - 1))))
        self.assertFalse(self.holds(STILL, swapped(swapped(STILL_PAPER, 2, ring), 4, (GREAT - 1, GREAT))))
        by = (-GREAT, GREAT)
        paper = ("lives", as_point(by), ROUND, (0, 0), (0, 0), ((by,),) * 4)
        self.assertTrue(self.holds(((by,),), paper))
        self.assertFalse(self.holds(((by,),), swapped(paper, 1, as_point((-GREAT, GREAT - Fraction(1, GREAT))))))

    def test_papers_changed_by_chance(self):
        chance = random.Random(281)
        told = []
        for plain, v in living_pairs(282, 60):
            paper = land_of(plain, v)
            for turn in range(12):
                told.append(self.holds(plain, self.changed(chance, plain, paper)))
        self.assertGreater(min(told.count(True), told.count(False)), 100)

    def changed(self, chance, plain, paper):
        at = chance.randrange(len(paper[2]))
        by = chance_cell(chance, 1)
        what = chance.randrange(6)
        if what == 1:
            v = as_numbers(paper[1])
            share = Fraction(1, chance.choice((1, 2, 10 ** 9)))
            return swapped(paper, 1, as_point((v[0] + by[0] * share, v[1] + by[1] * share)))
        if what == 2:
            moved = (paper[2][at][0] + by[0], paper[2][at][1] + by[1])
            return swapped(paper, 2, swapped(paper[2], at, moved))
        if what == 3:
            return swapped(paper, 3, chance.choice(paper[2]))
        if what == 4:
            corner = chance.choice(paper[2])
            return swapped(paper, 4, (corner[0] + by[0], corner[1] + by[1]))
        if what == 5:
            return swapped(paper, 5, swapped(paper[5], at, chance.choice(plain)))
        return swapped(paper, 5, swapped(paper[5], at, paper[5][at] + (chance_cell(chance, 2),)))

    def test_many_cells(self):
        # Sixty cells around, rows of four hundred: all in bearable time.
        ring = ((0, 0), (60, 0)) + tuple([(60, y) for y in range(1, 59)])
        rows = (tuple([(-x % 3, y % 2) for x in range(20) for y in range(20)]),) * 60
        paper = ("lives", NOUGHT, ring, (0, 0), (58, 2), rows)
        started = time.monotonic()
        self.assertFalse(living_holds(STILL, paper))
        still = (((0, 0),) * 400,) * 60
        self.assertTrue(living_holds(STILL, swapped(paper, 5, still)))
        self.assertLess(time.monotonic() - started, 20)


class CellAt(unittest.TestCase):
    def told(self, paper, many):
        cell = cell_at(paper, many)
        self.assertEqual(kinds_in(cell), {tuple, int})
        v = as_numbers(paper[1])
        self.assertEqual(cell, tuple([math.ceil(paper[4][k] - many * v[k]) for k in (0, 1)]))
        return cell

    def test_known(self):
        self.assertEqual([self.told(HALF_PAPER, many) for many in range(6)],
                         [(0, 0), (0, 0), (-1, -1), (-1, -1), (-2, -2), (-2, -2)])
        for many in (0, 1, 7, FAR):
            self.assertEqual(self.told(STILL_PAPER, many), (0, 0))

    def test_fractions_above_and_below_nought(self):
        numbers = (Fraction(0), Fraction(1), Fraction(-1), Fraction(2, 3), Fraction(-2, 3), Fraction(-7, 2),
                   Fraction(10 ** 9, 7), Fraction(-1, 10 ** 18))
        for v in itertools.product(numbers, repeat=2):
            for q in ((0, 0), (5, -7)):
                paper = swapped(swapped(STILL_PAPER, 1, as_point(v)), 4, q)
                for many in (0, 1, 2, 3, 4, 5, 999, FAR - 1, FAR):
                    self.told(paper, many)

    def test_far_beats(self):
        self.assertEqual(self.told(HALF_PAPER, FAR), (-FAR // 2, -FAR // 2))
        self.assertEqual(self.told(HALF_PAPER, FAR - 1), (1 - FAR // 2, 1 - FAR // 2))
        third = swapped(STILL_PAPER, 1, ((-1, 3), (2, 3)))
        self.assertEqual(self.told(third, FAR), (FAR // 3 + 1, -(2 * FAR // 3)))
        great = swapped(swapped(STILL_PAPER, 1, ((GREAT, 1), (-GREAT, 1))), 4, (GREAT, GREAT))
        self.assertEqual(self.told(great, FAR), (GREAT - FAR * GREAT, GREAT + FAR * GREAT))


class Stepped(unittest.TestCase):
    def step(self, plain, paper, many):
        """Steps the land's cells, and looks for all cells of the land carried so far, and the told one."""
        ring, v = paper[2], as_numbers(paper[1])
        island = land_cells(ring)
        far = 2 + max([abs(number) for cell in ring for number in cell])
        for beats in range(many + 1):
            broken = set(island)
            self.assertIn(cell_at(paper, beats), broken)
            for x, y in itertools.product(range(-far, far + 1), repeat=2):
                here = (x - math.floor(beats * v[0]), y - math.floor(beats * v[1]))
                back = (here[0] + beats * v[0], here[1] + beats * v[1])
                if in_land_by_hand(ring, back):
                    self.assertIn(here, broken)
            island = beat(plain, island)

    def test_known(self):
        self.step(STILL, STILL_PAPER, 4)
        self.step(HALF, HALF_PAPER, 6)
        self.step((((0, 0),), ((1, 1),)), HALF_PAPER, 6)

    def test_told_papers(self):
        stepped = 0
        for plain, v in living_pairs(292, 60, 4, (1,)):
            paper = land_of(plain, v)
            if max([abs(number) for cell in paper[2] for number in cell]) <= 9:
                stepped = stepped + 1
                self.step(plain, paper, 4)
        self.assertGreater(stepped, 20)


class LandOf(unittest.TestCase):
    def land(self, plain, v):
        """The paper told, where all that is told of it holds."""
        paper = land_of(plain, v)
        self.assertIs(type(paper), tuple)
        self.assertEqual(kinds_in(paper), {tuple, int, str})
        self.assertEqual(paper[:2], ("lives", v))
        self.assertTrue(living_holds(plain, paper), (plain, v))
        self.assertTrue(lives_by_hand(plain, paper), (plain, v))
        return paper

    def lands(self, plain):
        """A paper for each corner of the meet, and for points between them."""
        corners = [as_numbers(corner) for corner in meet_of(exchanged(plain))]
        points = list(corners)
        for one, other in itertools.combinations(corners, 2):
            points.append(((one[0] + other[0]) / 2, (one[1] + other[1]) / 2))
        if corners:
            points.append((sum([x for x, y in corners]) / len(corners), sum([y for x, y in corners]) / len(corners)))
        for point in points[:8]:
            self.land(plain, as_point(point))
        return len(corners)

    def test_a_single_cell(self):
        for cell in ((0, 0), (1, 0), (-3, 7), (1000, -1000), (1000, 999)):
            self.assertEqual(self.lands(((cell,),)), 1)

    def test_one_row(self):
        # A row of several cells heals but where it is one cell; many rows of one cell live.
        self.assertEqual(self.lands((((0, 0), (1, 0)),)), 0)
        self.assertEqual(self.lands(WAYS), 4)
        self.assertEqual(self.lands(tuple(sorted([((x, 0),) for x in range(6)]))), 2)

    def test_cells_on_one_line(self):
        chance = random.Random(301)
        for way in ((1, 0), (0, 1), (1, 1), (2, -3), (333, 1), (-200, 199)):
            for turn in range(6):
                line = {(k * way[0], k * way[1]) for k in [chance.randint(-3, 3) for at in range(5)]}
                self.lands(chance_plain(chance, line))

    def test_all_forms(self):
        chance = random.Random(30)
        sizes = []
        for turn in range(150):
            cells = {chance_cell(chance, chance.choice((1, 2, 4))) for k in range(1 + turn % 6)}
            sizes.append(min(self.lands(chance_plain(chance, cells)), 4))
        for size in range(5):
            self.assertGreater(sizes.count(size), 3, size)

    def test_far_apart(self):
        chance = random.Random(302)
        for turn in range(60):
            self.lands(chance_plain(chance, {chance_cell(chance, 1000) for k in range(1 + turn % 6)}))
        corners = ((-1000, -1000), (-1000, 1000), (999, -1000), (1000, 1000))
        self.lands(tuple(sorted([(corner,) for corner in corners])))
        self.lands(((corners[0], corners[3]), (corners[1], corners[2])))

    def test_one_of_two_pairs(self):
        # Each pair's middle is the other one's, and the one point that the healing rows have in common.
        plain = (((0, 0), (3, 2)), ((0, 2), (3, 0)))
        self.assertEqual(meet_of(exchanged(plain)), ())
        either = tuple(sorted([((0, 0), (0, 2)), ((0, 2), (3, 2)), ((3, 0), (3, 2)), ((0, 0), (3, 0))]))
        self.assertEqual(meet_of(exchanged(either)), (((3, 2), (1, 1)),))
        self.land(either, ((3, 2), (1, 1)))

    def test_three_of_five(self):
        ring = ((0, 2), (2, 0), (1, -2), (-1, -2), (-2, 0))
        plain = tuple(sorted([tuple(sorted(row)) for row in itertools.combinations(ring, 2)]))
        self.assertGreater(self.lands(plain), 4)

    def test_great_lower_numbers(self):
        shares = (Fraction(1, 10 ** 29 + 7), Fraction(1, 3), Fraction(10 ** 28 + 1, 10 ** 29 + 9))
        for share, other in itertools.product(shares, repeat=2):
            v = (share * 2 - share * other, other)
            plain = (((0, 0),), ((0, 1),), ((2, 0),), ((2, 1),))
            self.assertTrue(all([in_hull_by_hand(row, v) for row in exchanged(plain)]))
            self.land(plain, as_point(v))

    def test_eight_cells(self):
        chance = random.Random(303)
        for turn in range(10):
            plain = tuple(sorted([(cell,) for cell in {chance_cell(chance, 9) for k in range(8)}]))
            self.lands(plain)

    def test_bearable_time(self):
        chance = random.Random(304)
        started = time.monotonic()
        for turn in range(60):
            plain = tuple(sorted([(cell,) for cell in {chance_cell(chance, 1000) for k in range(6)}]))
            for v in meet_of(exchanged(plain)):
                land_of(plain, v)
        self.assertLess(time.monotonic() - started, 30)


class AskedAgain(unittest.TestCase):
    def test_told_the_same(self):
        pairs = living_pairs(305, 15)

        def ask():
            papers = [land_of(plain, v) for plain, v in pairs]
            return [(paper, living_holds(pair[0], paper), cell_at(paper, 5)) for pair, paper in zip(pairs, papers)]

        self.assertEqual(ask(), ask())
        self.assertLessEqual(kinds_in(ask()), {list, tuple, int, str, bool})


if __name__ == "__main__":
    unittest.main()
