"""Healing papers: when they hold, what they tell of islands, and how they are carried along."""

import itertools
import random
import unittest

from healfloor.beats import beat
from healfloor.changes import plain_carried, plain_led, so_often
from healfloor.errors import TooMany
from healfloor.healing import healing_carried, healing_holds, healing_led, healing_often, limits_of, sure_beats
from healfloor.rows import exchanged
from healfloor.slopes import parting_of
from helpers import chance_cell, chance_plain, chance_table, heals_by_hand, kinds_in, swapped, value

FAR = 10 ** 18
GREAT = 10 ** 30
PAIR = (((0, 0), (1, 0)),)
PAIR_PAPER = ("heals", (((0, 0),), ((1, 0),)), ((-1, 0), (1, 0)))
TOOM = (((0, 0), (0, 1)), ((0, 0), (1, 0)), ((0, 1), (1, 0)))
TOOM_PAPER = ("heals", TOOM, ((-1, 0), (0, -1), (1, 1)))
TABLES = ((1, 0, 0, 1), (2, 0, 0, 1), (0, 1, 1, 0), (0, -1, 1, 0), (1, 2, 3, 4), (4, 3, 2, 1), (-9, 8, 7, -9),
          (9, -9, 9, 9), (-3, 0, 0, -3), (5, 0, 7, -2))


def chance_papers(seed, many, cells=5, far=2):
    """Rules that heal, by chance, each with a paper that holds."""
    chance = random.Random(seed)
    told = []
    while len(told) < many:
        plain = chance_plain(chance, {chance_cell(chance, far) for k in range(chance.randint(2, cells))})
        parted = parting_of(exchanged(plain))
        if parted is not None:
            told.append((plain, ("heals",) + parted))
    return told


def falls(paper):
    return [min([value(slope, cell) for cell in row]) for row, slope in zip(paper[1], paper[2])]


def chance_island(chance, middle, far):
    cells = [chance_cell(chance, far) for k in range(chance.randint(1, 12))]
    return tuple(sorted({(middle[0] + x, middle[1] + y) for x, y in cells}))


class Holds(unittest.TestCase):
    def holds(self, plain, paper):
        told = healing_holds(plain, paper)
        self.assertIs(type(told), bool)
        self.assertEqual(told, heals_by_hand(plain, paper), (plain, paper))
        return told

    def test_papers_that_hold(self):
        self.assertTrue(self.holds(PAIR, PAIR_PAPER))
        self.assertTrue(self.holds(TOOM, TOOM_PAPER))
        for plain, paper in chance_papers(24, 200):
            self.assertTrue(self.holds(plain, paper))

    def test_of_another_rule(self):
        self.assertFalse(self.holds(TOOM, PAIR_PAPER))
        self.assertFalse(self.holds((((0, 0),),), TOOM_PAPER))
        # The rule that breaks less has the papers of the one that breaks more.
        self.assertTrue(self.holds((((0, 0), (0, 1), (1, 0)),), TOOM_PAPER))

    def test_how_many(self):
        word, rows, slopes = TOOM_PAPER
        self.assertFalse(self.holds(TOOM, (word, rows + rows[:1], slopes)))
        self.assertFalse(self.holds(TOOM, (word, rows, slopes + ((0, 0),))))
        self.assertFalse(self.holds(TOOM, (word, rows[:2], slopes)))
        self.assertFalse(self.holds(TOOM, (word, rows, slopes[:2])))
        self.assertFalse(self.holds(TOOM, (word, (), ())))
        self.assertFalse(self.holds(TOOM, (word, rows, ())))
        self.assertFalse(self.holds(TOOM, (word, (), slopes)))
        for more in range(1, 6):
            self.assertTrue(self.holds(TOOM, (word, rows + rows[:1] * more, slopes + ((0, 0),) * more)))
        self.assertFalse(self.holds(TOOM, (word, rows + rows[:1] * 6, slopes + ((0, 0),) * 6)))
        # One row alone: its slope is (0, 0), and so is its fall.
        self.assertFalse(self.holds(TOOM, (word, rows[:1], ((0, 0),))))

    def test_eight_that_fall_together(self):
        rows = PAIR_PAPER[1] * 4
        self.assertTrue(self.holds(PAIR, ("heals", rows, PAIR_PAPER[2] * 4)))
        self.assertFalse(self.holds(PAIR, ("heals", PAIR_PAPER[1] * 5, PAIR_PAPER[2] * 5)))
        self.assertFalse(self.holds(PAIR, ("heals", rows + rows[:1], PAIR_PAPER[2] * 4 + ((0, 0),))))

    def test_empty_rows(self):
        for at in range(3):
            self.assertFalse(self.holds(TOOM, swapped(TOOM_PAPER, 1, swapped(TOOM, at, ()))))
        self.assertFalse(self.holds(TOOM, ("heals", TOOM + ((),), TOOM_PAPER[2] + ((0, 0),))))

    def test_rows_that_do_not_heal(self):
        for at, row in enumerate(TOOM):
            for cell in row:
                self.assertFalse(self.holds(TOOM, swapped(TOOM_PAPER, 1, swapped(TOOM, at, (cell,)))))
        self.assertFalse(self.holds(PAIR, ("heals", (((0, 0),), ((2, 0),)), ((-1, 0), (1, 0)))))

    def test_slopes_that_are_not_nought_together(self):
        for at, by in itertools.product(range(3), ((1, 0), (-1, 0), (0, 1), (0, -1), (1, -1))):
            slope = TOOM_PAPER[2][at]
            slopes = swapped(TOOM_PAPER[2], at, (slope[0] + by[0], slope[1] + by[1]))
            self.assertFalse(self.holds(TOOM, swapped(TOOM_PAPER, 2, slopes)))
        # Far more fall than there must be, yet not nought together.
        self.assertFalse(self.holds(TOOM, swapped(TOOM_PAPER, 2, ((-1, 0), (0, -1), (9, 9)))))
        self.assertFalse(self.holds(TOOM, swapped(TOOM_PAPER, 2, ((-1, 0), (0, -1), (1, 2)))))

    def test_falls_of_nought_or_less(self):
        wide = TOOM[:2] + (((0, 0), (0, 1), (1, 0)),)
        self.assertEqual(sum(falls(("heals", wide, TOOM_PAPER[2]))), 0)
        self.assertFalse(self.holds(TOOM, ("heals", wide, TOOM_PAPER[2])))
        self.assertFalse(self.holds(TOOM, swapped(TOOM_PAPER, 2, ((1, 0), (0, 1), (-1, -1)))))
        self.assertFalse(self.holds(TOOM, swapped(TOOM_PAPER, 2, ((0, 0),) * 3)))
        self.assertFalse(self.holds(PAIR, swapped(PAIR_PAPER, 2, ((1, 0), (-1, 0)))))
        self.assertTrue(self.holds(PAIR, swapped(PAIR_PAPER, 2, ((-7, 0), (7, 0)))))

    def test_cells_in_any_order(self):
        for rows in itertools.product(*[itertools.permutations(row + row[:1]) for row in TOOM]):
            self.assertTrue(self.holds(TOOM, ("heals", rows, TOOM_PAPER[2])))

    def test_further_cells(self):
        more = (((0, 0), (-5, 3), (0, 1)), ((7, -7), (0, 0), (1, 0)), ((0, 1), (1, 0), (-4, 5)))
        self.assertTrue(self.holds(TOOM, ("heals", more, TOOM_PAPER[2])))
        sixty = tuple([(-k, k + 1) for k in range(60)]) + ((1, 0),)
        self.assertTrue(self.holds(TOOM, ("heals", TOOM[:2] + (sixty,), TOOM_PAPER[2])))
        self.assertFalse(self.holds(TOOM, ("heals", TOOM[:2] + (sixty + ((3, -3),),), TOOM_PAPER[2])))

    def test_great_numbers(self):
        slopes = ((-GREAT, 0), (0, -GREAT), (GREAT, GREAT))
        self.assertTrue(self.holds(TOOM, ("heals", TOOM, slopes)))
        self.assertFalse(self.holds(TOOM, ("heals", TOOM, ((-GREAT, 0), (0, -GREAT), (GREAT, GREAT - 1)))))
        far = ((GREAT, -GREAT), (GREAT, 1 - GREAT))
        plain = ((far[0], far[1]),)
        self.assertTrue(self.holds(plain, ("heals", (far[:1], far[1:]), ((GREAT, -1), (-GREAT, 1)))))
        self.assertFalse(self.holds(plain, ("heals", (far[:1], far[1:]), ((GREAT, 1), (-GREAT, -1)))))
        self.assertFalse(self.holds(PAIR, ("heals", PAIR_PAPER[1][:1] + (((1, 0), (GREAT, -GREAT)),),
                                           ((-1, -1), (1, 1)))))

    def test_another_word(self):
        for word in ("lives", "heal", "Heals", "heals ", "", "HEALS"):
            self.assertFalse(self.holds(TOOM, swapped(TOOM_PAPER, 0, word)))
        living = ("lives", ((0, 1), (0, 1)), ((0, 0), (1, 0), (0, 1)), (0, 0), (0, 0), (((0, 0),),) * 3)
        self.assertIs(healing_holds((((0, 0),),), living), False)

    def test_papers_changed_by_chance(self):
        chance = random.Random(241)
        told = []
        for plain, paper in chance_papers(242, 150):
            for turn in range(6):
                at = chance.randrange(len(paper[1]))
                if chance.random() < 0.5:
                    row = chance.choice((paper[1][at] + (chance_cell(chance, 3),), paper[1][at][1:]))
                    changed = swapped(paper, 1, swapped(paper[1], at, row))
                else:
                    by = chance_cell(chance, 1)
                    slope = tuple([one + other for one, other in zip(paper[2][at], by)])
                    back = tuple([one - other for one, other in zip(paper[2][at - 1], by)])
                    changed = swapped(paper, 2, swapped(swapped(paper[2], at, slope), at - 1, back))
                told.append(self.holds(plain, changed))
        self.assertGreater(min(told.count(True), told.count(False)), 100)


class Limits(unittest.TestCase):
    def test_known(self):
        self.assertEqual(sure_beats(TOOM_PAPER, ((0, 0),)), 1)
        self.assertEqual(sure_beats(TOOM_PAPER, ((0, 0), (0, 1), (1, 0), (1, 1))), 3)
        self.assertEqual(limits_of(TOOM_PAPER, ((0, 0), (2, 5)), 0), (0, 0, 7))
        self.assertEqual(limits_of(TOOM_PAPER, ((0, 0), (2, 5)), 3), (0, 0, 4))
        self.assertEqual(limits_of(PAIR_PAPER, ((3, 0), (9, 4)), 2), (-3, 7))
        self.assertEqual(sure_beats(PAIR_PAPER, ((3, 0), (9, 4))), 7)

    def test_no_cells(self):
        for many in (0, 1, 7, FAR):
            self.assertEqual(limits_of(TOOM_PAPER, (), many), ())
        self.assertEqual(sure_beats(TOOM_PAPER, ()), 0)

    def test_just_nought_together(self):
        self.assertEqual(limits_of(TOOM_PAPER, ((0, 0), (2, 5)), 7), (0, 0, 0))
        self.assertEqual(limits_of(TOOM_PAPER, ((0, 0), (2, 5)), 8), ())
        self.assertEqual(sure_beats(TOOM_PAPER, ((0, 0), (2, 5))), 8)
        self.assertEqual(limits_of(PAIR_PAPER, ((4, 4),), 0), (-4, 4))
        self.assertEqual(limits_of(PAIR_PAPER, ((4, 4),), 1), ())

    def test_falls_above_one(self):
        paper = swapped(TOOM_PAPER, 2, ((-3, 0), (0, -3), (3, 3)))
        for across in range(7):
            island = ((0, 0), (across, 0))
            self.assertEqual(sure_beats(paper, island), across + 1)
        wide = ("heals", (((0, 0),), ((3, 0),)), ((-1, 0), (1, 0)))
        self.assertEqual([sure_beats(wide, ((0, 0), (x, 0))) for x in range(1, 8)], [1, 1, 2, 2, 2, 3, 3])
        self.assertEqual([limits_of(wide, ((0, 0), (7, 0)), many) for many in range(4)],
                         [(0, 7), (0, 4), (0, 1), ()])

    def test_falls_below_nought(self):
        # One slope's limit may rise as long as the other ones fall more.
        paper = ("heals", (((-2, 0),), ((5, 0),)), ((1, 0), (-1, 0)))
        self.assertFalse(heals_by_hand((((-2, 0), (5, 0)),), paper))
        paper = swapped(paper, 2, ((-1, 0), (1, 0)))
        self.assertEqual(falls(paper), [2, 5])
        carried = healing_carried(paper, (10, 0))
        self.assertEqual(falls(carried), [-8, 15])
        self.assertEqual(limits_of(carried, ((0, 0), (20, 0)), 2), (16, -10))
        self.assertEqual(sure_beats(carried, ((0, 0), (20, 0))), 3)

    def test_far_beats_and_islands(self):
        self.assertEqual(limits_of(TOOM_PAPER, ((-FAR, -FAR), (FAR, FAR)), FAR), (FAR, FAR, FAR))
        self.assertEqual(limits_of(TOOM_PAPER, ((0, 0), (9, 9)), FAR), ())
        self.assertEqual(sure_beats(TOOM_PAPER, ((-FAR, -FAR), (FAR, FAR))), 4 * FAR + 1)
        self.assertEqual(limits_of(TOOM_PAPER, ((0, 0), (FAR, 0)), FAR), (0, 0, 0))
        self.assertEqual(limits_of(TOOM_PAPER, ((0, 0), (FAR - 1, 0)), FAR), ())
        great = healing_led(TOOM_PAPER, (GREAT, 0, 0, GREAT))
        self.assertEqual(sure_beats(great, ((0, 0), (FAR, FAR))), 1)

    def test_against_islands_stepped(self):
        chance = random.Random(26)
        for plain, paper in chance_papers(261, 60):
            middle = (0, 0) if chance.random() < 0.5 else chance_cell(chance, FAR)
            self.step(plain, paper, chance_island(chance, middle, chance.choice((1, 3, 6))))

    def step(self, plain, paper, island):
        """Steps the island, till it is whole, beside its limits."""
        first = [max([value(slope, cell) for cell in island]) for slope in paper[2]]
        sure = sure_beats(paper, island)
        self.assertEqual(sure, sum(first) // sum(falls(paper)) + 1)
        self.assertEqual(limits_of(paper, island, 0), tuple(first))
        here = island
        for many in range(min(sure, 40) + 1):
            limits = limits_of(paper, island, many)
            due = tuple([limit - many * fall for limit, fall in zip(first, falls(paper))])
            self.assertEqual(limits, due if sum(due) >= 0 else ())
            self.assertEqual(limits == (), many >= sure)
            for cell in here:
                self.assertNotEqual(limits, ())
                self.assertTrue(all([value(slope, cell) <= limit for slope, limit in zip(paper[2], limits)]))
            here = beat(plain, here)

    def test_whole_just_then(self):
        # A row of cells loses one at each beat: no paper could tell less.
        for across in range(8):
            island = tuple([(x, 0) for x in range(across + 1)])
            self.assertEqual(sure_beats(PAIR_PAPER, island), across + 1)
            here = island
            for many in range(across):
                here = beat(PAIR, here)
            self.assertEqual(len(here), 1)
            self.assertEqual(beat(PAIR, here), ())


class CarriedAlong(unittest.TestCase):
    def test_carried(self):
        self.assertEqual(healing_carried(TOOM_PAPER, (3, -4)),
                         ("heals", (((3, -4), (3, -3)), ((3, -4), (4, -4)), ((3, -3), (4, -4))), TOOM_PAPER[2]))
        for by in ((0, 0), (1000, -1000), (-7, 2)):
            for plain, paper in chance_papers(27, 40):
                told = healing_carried(paper, by)
                self.assertTrue(healing_holds(plain_carried(plain, by), told))
                self.assertEqual(told[2], paper[2])

    def test_carried_each_cell_in_its_place(self):
        rows = (((5, 5), (0, 0), (1, 0), (0, 0)), ((1, 0), (-9, 2)))
        self.assertEqual(healing_carried(("heals", rows, ((-1, 0), (1, 0))), (-1, GREAT)),
                         ("heals", (((4, 5 + GREAT), (-1, GREAT), (0, GREAT), (-1, GREAT)),
                                    ((0, GREAT), (-10, 2 + GREAT))), ((-1, 0), (1, 0))))

    def test_led(self):
        self.assertEqual(healing_led(TOOM_PAPER, (2, 0, 0, 3)),
                         ("heals", (((0, 0), (0, 3)), ((0, 0), (2, 0)), ((0, 3), (2, 0))), ((-3, 0), (0, -2), (3, 2))))
        self.assertEqual(healing_led(TOOM_PAPER, (0, 1, 1, 0)),
                         ("heals", (((0, 0), (1, 0)), ((0, 0), (0, 1)), ((1, 0), (0, 1))), ((0, -1), (-1, 0), (1, 1))))

    def test_led_by_all_sorts_of_tables(self):
        chance = random.Random(271)
        pairs = chance_papers(272, 30)
        for table in TABLES + tuple([chance_table(chance, 9) for k in range(30)]):
            for plain, paper in pairs:
                told = healing_led(paper, table)
                self.assertTrue(healing_holds(plain_led(plain, table), told), (plain, table))
                self.slopes_led(paper[2], told[2], table)
                self.assertEqual(sum(falls(told)), sum(falls(paper)) * abs(table[0] * table[3] - table[1] * table[2]))

    def slopes_led(self, before, slopes, table):
        """Each slope's worth at led cells is the one ahead, at the cells, so many times."""
        times = abs(table[0] * table[3] - table[1] * table[2])
        for one, other in zip(before, slopes, strict=True):
            for x, y in ((1, 0), (0, 1), (5, -7)):
                cell = (table[0] * x + table[1] * y, table[2] * x + table[3] * y)
                self.assertEqual(value(other, cell), times * value(one, (x, y)))

    def test_led_each_cell_in_its_place(self):
        rows = (((5, 5), (0, 0), (1, 0), (0, 0)), ((1, 0), (-9, 2)))
        self.assertEqual(healing_led(("heals", rows, ((-1, 0), (1, 0))), (1, 2, 3, 4))[1],
                         (((15, 35), (0, 0), (1, 3), (0, 0)), ((1, 3), (-5, -19))))

    def test_so_often(self):
        self.assertEqual(healing_often(TOOM_PAPER, 1), TOOM_PAPER)
        self.assertEqual(healing_often(TOOM_PAPER, 2),
                         ("heals", (((0, 0), (0, 1), (0, 2)), ((0, 0), (1, 0), (2, 0)), ((0, 2), (1, 1), (2, 0))),
                          TOOM_PAPER[2]))
        self.assertEqual(healing_often(TOOM_PAPER, 3)[1][2], ((0, 3), (1, 2), (2, 1), (3, 0)))

    def test_so_often_holds(self):
        counts = []
        for plain, paper in chance_papers(273, 150, 4, 1):
            for many in (1, 2, 3):
                told = healing_often(paper, many)
                try:
                    often = so_often(plain, many)
                except TooMany:
                    continue
                counts.append(many)
                self.assertTrue(healing_holds(often, told), (plain, many))
                self.assertEqual(sum(falls(told)), many * sum(falls(paper)))
        self.assertGreater(min(counts.count(2), counts.count(3)), 10)

    def test_so_often_all_sums(self):
        chance = random.Random(274)
        for turn in range(60):
            rows = tuple([tuple([chance_cell(chance, 9) for k in range(chance.randint(1, 8))]) for at in range(3)])
            slopes = tuple([chance_cell(chance, 9) for at in range(3)])
            for many in (1, 2, 3):
                due = []
                for row in rows:
                    sums = {(sum([x for x, y in some]), sum([y for x, y in some]))
                            for some in itertools.product(row, repeat=many)}
                    due.append(tuple(sorted(sums)))
                self.assertEqual(healing_often(("heals", rows, slopes), many), ("heals", tuple(due), slopes))

    def test_so_often_of_any_order(self):
        rows = (((0, 1), (0, 0), (0, 1)), ((1, 0), (0, 0)), ((1, 0), (0, 1)))
        for many in (1, 2, 3):
            self.assertEqual(healing_often(("heals", rows, TOOM_PAPER[2]), many), healing_often(TOOM_PAPER, many))

    def test_one_behind_another(self):
        paper = healing_led(healing_carried(healing_often(TOOM_PAPER, 2), (7, 7)), (2, 1, 1, -1))
        plain = plain_led(plain_carried(so_often(TOOM, 2), (7, 7)), (2, 1, 1, -1))
        self.assertTrue(healing_holds(plain, paper))


class AskedAgain(unittest.TestCase):
    def test_told_the_same(self):
        island = ((0, 0), (3, 4), (5, -2))

        def ask():
            told = []
            for plain, paper in chance_papers(275, 15):
                told.append((healing_holds(plain, paper), sure_beats(paper, island), limits_of(paper, island, 2),
                             healing_carried(paper, (1, 2)), healing_led(paper, (1, 2, 3, 4)),
                             healing_often(paper, 2)))
            return told

        self.assertEqual(ask(), ask())
        self.assertLessEqual(kinds_in(ask()), {list, tuple, int, str, bool})


if __name__ == "__main__":
    unittest.main()
