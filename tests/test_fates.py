"""The fate of each rule, and papers of either sort."""

import itertools
import random
import time
import unittest

from healfloor.beats import beats, whole_behind
from healfloor.changes import plain_carried, plain_led, so_often
from healfloor.errors import TooMany
from healfloor.fates import fate_of, holds
from healfloor.healing import healing_carried, healing_led, healing_often, sure_beats
from healfloor.lands import land_cells
from healfloor.living import cell_at
from healfloor.livingmore import living_carried, living_greater, living_led
from healfloor.rows import at_most_as_bad
from helpers import (cells_of, chance_cell, chance_plain, chance_table, heals_by_hand, kinds_in, lives_by_hand,
                     some_of, swapped)

STILL = (((0, 0),),)
PAIR = (((0, 0), (1, 0)),)
TOOM = (((0, 0), (0, 1)), ((0, 0), (1, 0)), ((0, 1), (1, 0)))
NINE = tuple(itertools.product((-1, 0, 1), repeat=2))


def chance_rules(seed, many, fars=(1, 2, 4)):
    """Rules by chance, of one to six cells."""
    chance = random.Random(seed)
    told = []
    for turn in range(many):
        cells = set()
        while len(cells) < 1 + turn % 6:
            cells.add(chance_cell(chance, chance.choice(fars)))
        told.append(chance_plain(chance, cells))
    return told


def at_least(many, cells):
    return tuple(sorted([tuple(sorted(row)) for row in itertools.combinations(cells, many)]))


def by_hand(plain, paper):
    return heals_by_hand(plain, paper) if paper[0] == "heals" else lives_by_hand(plain, paper)


def all_small_rules():
    """All rules of three cells that are not on one line, and of three that are."""
    told = []
    for cells in (((0, 0), (0, 1), (1, 0)), ((0, 0), (1, 0), (3, 0))):
        rows = some_of(cells)
        for many in range(1, len(rows) + 1):
            for some in itertools.combinations(rows, many):
                if not any([set(one) < set(other) for one, other in itertools.permutations(some, 2)]):
                    told.append(tuple(sorted(some)))
    return sorted(set(told))


class Fates(unittest.TestCase):
    def fate(self, plain):
        """The fate's word, where all that is told of it holds."""
        paper = fate_of(plain)
        self.assertIs(type(paper), tuple)
        self.assertEqual(kinds_in(paper), {tuple, int, str})
        self.assertIs(holds(plain, paper), True)
        self.assertTrue(by_hand(plain, paper), plain)
        if paper[0] == "heals":
            self.assertLessEqual(len(paper[1]), 3)
            self.assertLessEqual(max([len(row) for row in paper[1]]), 8)
        else:
            self.assertEqual((paper[0], len(paper)), ("lives", 6))
        return paper[0]

    def test_known(self):
        self.assertEqual(self.fate(STILL), "lives")
        self.assertEqual(self.fate((((7, -3),),)), "lives")
        self.assertEqual(self.fate(PAIR), "heals")
        self.assertEqual(self.fate((((0, 0),), ((1, 0),))), "lives")
        self.assertEqual(self.fate(TOOM), "heals")
        cross = ((0, 0), (1, 0), (0, 1), (-1, 0), (0, -1))
        self.assertEqual(self.fate(at_least(3, cross)), "lives")
        self.assertEqual(self.fate(at_least(2, cross)), "lives")
        self.assertEqual(self.fate(at_least(4, cross)), "heals")
        self.assertEqual(self.fate(at_least(3, cross[1:])), "heals")
        self.assertEqual(self.fate(at_least(2, cross[1:])), "lives")
        # One of each pair on two lines: where these cross, healing rows have a point in common.
        self.assertEqual(self.fate(tuple(sorted([((-1, 0), (0, -1)), ((-1, 0), (0, 1)), ((0, -1), (1, 0)),
                                                 ((0, 1), (1, 0))]))), "lives")

    def test_all_small_rules(self):
        told = [self.fate(plain) for plain in all_small_rules()]
        self.assertGreater(min(told.count("heals"), told.count("lives")), 4)

    def test_near(self):
        told = [self.fate(plain) for plain in chance_rules(32, 240, (1, 2, 4))]
        self.assertGreater(min(told.count("heals"), told.count("lives")), 20)

    def test_far(self):
        told = [self.fate(plain) for plain in chance_rules(321, 120, (1000,))]
        self.assertGreater(min(told.count("heals"), told.count("lives")), 10)
        corners = tuple(itertools.product((-1000, 1000), repeat=2))
        for many in range(1, 5):
            self.fate(at_least(many, corners))

    def test_cells_on_one_line(self):
        for cells in (((0, 0), (1, 0), (2, 0), (3, 0), (4, 0), (5, 0)), ((0, -3), (0, 1), (0, 2), (0, 9), (0, 1000)),
                      ((-999, 1000), (0, 0), (999, -1000))):
            for many in range(1, len(cells) + 1):
                # At least half of them: then the middle stays.
                due = "lives" if 2 * many <= len(cells) + 1 else "heals"
                self.assertEqual(self.fate(at_least(many, cells)), due)

    def test_many_healing_rows(self):
        started = time.monotonic()
        for seed in range(8):
            chance = random.Random(seed)
            cells = {chance_cell(chance, 1000) for k in range(6)}
            for many in range(1, 7):
                self.fate(at_least(many, sorted(cells)))
        self.assertLess(time.monotonic() - started, 40)

    def test_what_papers_say_is_so(self):
        chance = random.Random(322)
        for plain in chance_rules(323, 60, (1,)):
            paper = fate_of(plain)
            if paper[0] == "heals":
                island = tuple(sorted(chance.sample(NINE, 5)))
                self.assertIsNotNone(whole_behind(plain, island, sure_beats(paper, island)))
            elif max([abs(number) for cell in paper[2] for number in cell]) <= 8:
                land = land_cells(paper[2])
                for many in (0, 1, 2, 5):
                    self.assertIn(cell_at(paper, many), beats(plain, land, many))


class Holds(unittest.TestCase):
    def test_other_words(self):
        for plain in (STILL, PAIR, TOOM):
            for word in ("", "heal", "living", "Heals", "LIVES"):
                self.assertIs(holds(plain, swapped(fate_of(plain), 0, word)), False)

    def test_of_no_rule(self):
        heals, lives = fate_of(TOOM), fate_of(STILL)
        self.assertIs(holds(STILL, heals), False)
        self.assertIs(holds(TOOM, lives), False)
        self.assertIs(holds(TOOM, ("heals",) + lives[1:]), False)
        self.assertIs(holds(STILL, ("lives",) + heals[1:]), False)
        self.assertIs(holds(TOOM, swapped(heals, 2, ((0, 0),) * len(heals[2]))), False)
        self.assertIs(holds(STILL, swapped(lives, 1, ((1, 2), (0, 1)))), False)

    def test_never_one_of_each_sort(self):
        rules = all_small_rules() + chance_rules(324, 60, (1,))
        papers = [fate_of(plain) for plain in rules]
        for plain in rules:
            held = {paper[0] for paper in papers if holds(plain, paper)}
            self.assertEqual(len(held), 1, plain)

    def test_at_most_as_bad(self):
        rules = all_small_rules() + chance_rules(325, 40, (1,))
        pairs = [(plain, fate_of(plain)) for plain in rules]
        counts = {"heals": 0, "lives": 0}
        for (one, one_paper), (other, other_paper) in itertools.permutations(pairs, 2):
            if at_most_as_bad(one, other):
                if other_paper[0] == "heals":
                    counts["heals"] += 1
                    self.assertTrue(holds(one, other_paper))
                if one_paper[0] == "lives":
                    counts["lives"] += 1
                    self.assertTrue(holds(other, one_paper))
        self.assertGreater(min(counts.values()), 30)


class SameFate(unittest.TestCase):
    def test_carried(self):
        for plain in chance_rules(326, 60):
            paper = fate_of(plain)
            for by in ((0, 1), (-7, 5), (900, -990)):
                other = plain_carried(plain, by)
                self.assertEqual(fate_of(other)[0], paper[0])
                carried = healing_carried if paper[0] == "heals" else living_carried
                self.assertTrue(holds(other, carried(paper, by)))
                self.assertTrue(by_hand(other, carried(paper, by)))

    def test_led(self):
        chance = random.Random(327)
        for plain in chance_rules(328, 60):
            paper = fate_of(plain)
            for turn in range(3):
                table = chance_table(chance, 9)
                other = plain_led(plain, table)
                self.assertEqual(fate_of(other)[0], paper[0])
                led = healing_led if paper[0] == "heals" else living_led
                self.assertTrue(holds(other, led(paper, table)))
                self.assertTrue(by_hand(other, led(paper, table)))

    def test_so_many_times(self):
        words = []
        for plain in all_small_rules() + chance_rules(329, 60, (1,)):
            paper = fate_of(plain)
            for many in (2, 3):
                try:
                    often = so_often(plain, many)
                except TooMany:
                    break
                if paper[0] == "heals":
                    self.assertTrue(holds(often, healing_often(paper, many)))
                if len(cells_of(often)) <= 6:
                    words.append(paper[0])
                    self.assertEqual(fate_of(often)[0], paper[0])
        self.assertGreater(min(words.count("heals"), words.count("lives")), 10)

    def test_greater(self):
        for plain in chance_rules(330, 40):
            paper = fate_of(plain)
            if paper[0] == "lives":
                self.assertTrue(holds(plain, living_greater(paper, 1000)))


class AskedAgain(unittest.TestCase):
    def test_told_the_same(self):
        rules = chance_rules(331, 30)

        def ask():
            return [fate_of(plain) for plain in rules]

        first = ask()
        self.assertEqual(first, ask())
        self.assertEqual(first[::-1], [fate_of(plain) for plain in reversed(rules)])


if __name__ == "__main__":
    unittest.main()
