"""What is promised over the whole program: its interface, the two papers, and that nothing handed in is changed."""

import copy
import importlib
import inspect
import itertools
import random
import unittest

from healfloor.beats import beat, beats
from healfloor.changes import behind, plain_carried, plain_led
from healfloor.desk import Desk
from healfloor.errors import FloorError, TooMany
from healfloor.fates import fate_of, holds
from healfloor.floors import Floor
from healfloor.healing import limits_of, sure_beats
from healfloor.islands import cut, island_of
from healfloor.lands import land_cells
from healfloor.living import cell_at
from healfloor.plain import plain_of
from healfloor.rows import breaks_by, exchanged, is_healing, least_rows
from healfloor.rules import breaks
from healfloor.steps import step_of
from healfloor.watches import Watch
from helpers import cells_of, chance_cell, chance_plain, chance_rule, kinds_in, value

FUNCTIONS = {
    "fractions": "fraction(upper, lower) added(one, other) less(one, other) times(one, other) over(one, other) "
                 "is_less(one, other) floor_of(one) ceiling_of(one)",
    "cells": "point_of(cell) worth(slope, cell) worth_at(slope, point) side_of(one, other, third) "
             "side_at(one, other, point) led(table, cell) carried(cell, by)",
    "rules": "breaks(rule, island, cell) look_book(book)",
    "reading": "read_rule(text) read_book(text)",
    "writing": "show_rule(rule) show_book(book)",
    "rows": "least_rows(rows) is_plain(thing) exchanged(plain) breaks_by(plain, cells) is_healing(plain, row) "
            "at_most_as_bad(one, other)",
    "plain": "plain_of(rule, book=None)",
    "islands": "island_of(cells) together(one, other) both_of(one, other) without(one, other) "
               "island_carried(island, by) island_led(island, table) cut(island, slope, most) outermost(island, slope)",
    "islandtexts": "show_island(island) read_island(text)",
    "beats": "beat(plain, island) beats(plain, island, many) whole_behind(plain, island, most)",
    "changes": "plain_carried(plain, by) plain_led(plain, table) behind(one, other) so_often(plain, many)",
    "steps": "step_of(plain, slope) beyond(plain, island, slopes, many)",
    "hulls": "hull_of(cells) in_hull(cells, point) sides_of(cells)",
    "meets": "meet_of(rows)",
    "slopes": "parting_of(rows)",
    "healing": "healing_holds(plain, paper) sure_beats(paper, island) limits_of(paper, island, many) "
               "healing_carried(paper, by) healing_led(paper, table) healing_often(paper, many)",
    "lands": "in_land(ring, point) land_cells(ring)",
    "living": "living_holds(plain, paper) land_of(plain, v) cell_at(paper, many)",
    "livingmore": "living_carried(paper, by) living_led(paper, table) living_greater(paper, many)",
    "fates": "fate_of(plain) holds(plain, paper)",
    "papertexts": "show_paper(paper) read_paper(text)",
}
CLASSES = {
    ("errors", "NoName"): "__init__(self, name)",
    ("errors", "NoText"): "__init__(self, row)",
    ("errors", "TooMany"): "__init__(self, many)",
    ("floors", "Floor"): "__init__(self, plain) broke(self, cells) mend(self, cells) go(self, many) broken(self) "
                         "gone(self) back(self)",
    ("watches", "Watch"): "__init__(self, plain, paper) broke(self, cells) go(self, many) limits(self) by(self)",
    ("desk", "Desk"): "__init__(self) say(self, row)",
}


def told(text):
    """The names and what stands in their brackets."""
    return [part.split("(") for part in text.replace(") ", ")\n").split("\n")]


def half_floor(slope, most, far):
    """The cells of a window whose worth is at most so much."""
    window = tuple(itertools.product(range(-far, far + 1), repeat=2))
    return cut(window, slope, most)


class Interface(unittest.TestCase):
    def test_functions(self):
        for module, text in FUNCTIONS.items():
            here = importlib.import_module("healfloor." + module)
            for name, arguments in told(text):
                self.assertEqual(str(inspect.signature(getattr(here, name))), "(" + arguments, (module, name))

    def test_classes(self):
        for (module, name), text in CLASSES.items():
            here = getattr(importlib.import_module("healfloor." + module), name)
            for method, arguments in told(text):
                self.assertEqual(str(inspect.signature(getattr(here, method))), "(" + arguments, (name, method))

    def test_errors(self):
        here = importlib.import_module("healfloor.errors")
        self.assertEqual(here.FloorError.__bases__, (ValueError,))
        for name in ("NoName", "NoText", "TooMany", "NotPaper", "NoDeed"):
            self.assertEqual(getattr(here, name).__bases__, (FloorError,))
        for name in ("NotPaper", "NoDeed"):
            getattr(here, name)()


class Promise(unittest.TestCase):
    def rules(self, seed, many, fars=(1, 2)):
        chance = random.Random(seed)
        for turn in range(many):
            yield chance_plain(chance, {chance_cell(chance, chance.choice(fars)) for k in range(1 + turn % 6)})

    def test_rows_are_each_others(self):
        chance = random.Random(3)
        for plain in self.rules(301, 60):
            healing = exchanged(plain)
            self.assertEqual(exchanged(healing), plain)
            for turn in range(20):
                cells = cells_of(plain)
                broken = tuple([cell for cell in cells if chance.random() < 0.5])
                whole = tuple([cell for cell in cells if cell not in broken])
                # It breaks where all of a breaking row is broken; it doesn't where all of a healing row is whole.
                self.assertEqual(breaks_by(plain, broken), any([set(row) <= set(broken) for row in plain]))
                self.assertEqual(breaks_by(plain, broken), not any([set(row) <= set(whole) for row in healing]))

    def test_rules_and_their_rows(self):
        chance = random.Random(31)
        kept = 0
        while kept < 40:
            rule = chance_rule(chance, 4)
            try:
                plain = plain_of(rule)
            except TooMany:
                continue
            kept = kept + 1
            self.assertEqual(least_rows(plain), plain)
            island = island_of([chance_cell(chance, 4) for k in range(12)])
            later = beat(plain, island)
            for cell in itertools.product(range(-4, 5), repeat=2):
                self.assertEqual(breaks(rule, island, cell), cell in later)

    def test_one_of_two_papers(self):
        chance = random.Random(32)
        for plain in self.rules(321, 60, (1,)):
            paper = fate_of(plain)
            self.assertTrue(holds(plain, paper))
            if paper[0] == "heals":
                island = island_of([chance_cell(chance, 3) for k in range(8)])
                self.assertEqual(beats(plain, island, sure_beats(paper, island)), ())
                for many in range(4):
                    limits = limits_of(paper, island, many)
                    for cell in beats(plain, island, many):
                        self.assertTrue(all([value(slope, cell) <= most for slope, most in zip(paper[2], limits)]))
            elif max([abs(number) for cell in paper[2] for number in cell]) <= 8:
                land = land_cells(paper[2])
                for many in range(6):
                    self.assertIn(cell_at(paper, many), beats(plain, land, many))

    def test_half_floors(self):
        far = 12
        for plain in self.rules(322, 20, (1,)):
            for slope in ((1, 0), (0, -1), (1, 1), (2, -1)):
                step = step_of(plain, slope)[0]
                later = set(beat(plain, half_floor(slope, 3, far)))
                for cell in itertools.product(range(-3, 4), repeat=2):
                    self.assertEqual(cell in later, value(slope, cell) <= 3 - step)

    def test_steps_add_up(self):
        for one, other in itertools.product(list(self.rules(323, 12, (1,))), repeat=2):
            try:
                both = behind(one, other)
            except TooMany:
                continue
            for slope in ((1, 0), (0, 1), (-3, 2)):
                self.assertEqual(step_of(both, slope)[0], step_of(one, slope)[0] + step_of(other, slope)[0])

    def test_same_fate(self):
        for plain in self.rules(324, 40):
            word = fate_of(plain)[0]
            self.assertEqual(fate_of(plain_carried(plain, (3, -8)))[0], word)
            self.assertEqual(fate_of(plain_led(plain, (2, 1, 1, -3)))[0], word)


class HandedIn(unittest.TestCase):
    def test_lists_stay_as_they_were(self):
        cells = [(1, 1), (0, 0), (1, 1)]
        rows = [((0, 0), (1, 0)), ((0, 0),)]
        kept = copy.deepcopy((cells, rows))
        plain = plain_of(("least", 2, (("cell", 0, 0), ("cell", 1, 0), ("cell", 0, 1))))
        island_of(cells)
        least_rows(rows)
        floor, watch = Floor(plain), Watch(plain, fate_of(plain))
        for thing in (floor, watch):
            thing.broke(cells)
            thing.go(1)
        floor.mend(cells)
        self.assertEqual((cells, rows), kept)

    def test_whatever_was_asked_between(self):
        chance = random.Random(2)
        plains = [chance_plain(chance, {chance_cell(chance, 1) for k in range(4)}) for turn in range(12)]
        first = [fate_of(plain) for plain in plains]
        desk = Desk()
        desk.say("rule a all(0,0 1,0)")
        paper = desk.say("paper a")
        self.assertEqual([fate_of(plain) for plain in plains[::-1]], first[::-1])
        self.assertEqual(desk.say("paper a"), paper)
        self.assertLessEqual(kinds_in(first), {list, tuple, int, str})
        for plain in plains:
            self.assertTrue(all([is_healing(plain, row) for row in exchanged(plain)]))


if __name__ == "__main__":
    unittest.main()
