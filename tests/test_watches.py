"""Watches: limits, and by when all is whole, however cells break later."""

import random
import unittest

from healfloor.errors import FloorError, NotPaper
from healfloor.fates import fate_of
from healfloor.floors import Floor
from healfloor.healing import limits_of, sure_beats
from healfloor.watches import Watch
from helpers import chance_cell, chance_plain, kinds_in, swapped, value

FAR = 10 ** 18
STILL = (((0, 0),),)
PAIR = (((0, 0), (1, 0)),)
PAIR_PAPER = ("heals", (((0, 0),), ((1, 0),)), ((-1, 0), (1, 0)))
TOOM = (((0, 0), (0, 1)), ((0, 0), (1, 0)), ((0, 1), (1, 0)))
TOOM_PAPER = ("heals", TOOM, ((-1, 0), (0, -1), (1, 1)))


def healing_rules(seed, many):
    """Rules that heal, by chance, each with its paper."""
    chance = random.Random(seed)
    told = []
    while len(told) < many:
        plain = chance_plain(chance, {chance_cell(chance, 1) for k in range(chance.randint(2, 5))})
        paper = fate_of(plain)
        if paper[0] == "heals":
            told.append((plain, paper))
    return told


def stepped(told):
    """A watch told all of these: lists of cells that break, numbers of beats that go by."""
    watch = Watch(TOOM, TOOM_PAPER)
    for thing in told:
        if isinstance(thing, int):
            watch.go(thing)
        else:
            watch.broke(thing)
    return (watch.limits(), watch.by())


class Refused(unittest.TestCase):
    def refused(self, plain, paper):
        with self.assertRaises(NotPaper) as caught:
            Watch(plain, paper)
        self.assertIsInstance(caught.exception, FloorError)

    def test_living_papers(self):
        self.refused(STILL, fate_of(STILL))
        self.refused(TOOM, fate_of(STILL))
        self.refused(((STILL[0]), ((1, 0),)), fate_of((((0, 0),), ((1, 0),))))

    def test_papers_that_do_not_hold(self):
        self.refused(STILL, TOOM_PAPER)
        self.refused(TOOM, PAIR_PAPER)
        self.refused(TOOM, swapped(TOOM_PAPER, 2, ((1, 0), (0, 1), (-1, -1))))
        self.refused(TOOM, swapped(TOOM_PAPER, 2, ((-1, 0), (0, -1), (1, 2))))
        self.refused(TOOM, swapped(TOOM_PAPER, 2, ((0, 0),) * 3))
        self.refused(TOOM, ("heals", (), ()))
        self.refused(TOOM, ("heals", TOOM, TOOM_PAPER[2][:2]))
        self.refused(TOOM, ("heals", TOOM * 3, TOOM_PAPER[2] * 3))

    def test_other_words(self):
        for word in ("lives", "", "heal"):
            self.refused(TOOM, swapped(TOOM_PAPER, 0, word))

    def test_let_by(self):
        Watch(TOOM, TOOM_PAPER)
        Watch((((0, 0), (0, 1), (1, 0)),), TOOM_PAPER)


class Limits(unittest.TestCase):
    def test_at_first(self):
        self.assertEqual(stepped([]), ((), 0))
        for many in (0, 1, FAR):
            self.assertEqual(stepped([many]), ((), 0))

    def test_known(self):
        self.assertEqual(stepped([[(0, 0), (2, 5)]]), ((0, 0, 7), 8))
        self.assertEqual(stepped([[(0, 0), (2, 5)], 3]), ((0, 0, 4), 5))
        # The first cells' worths, or those of the later ones, where they are greater.
        self.assertEqual(stepped([[(0, 0), (2, 5)], 3, [(-1, 4)]]), ((1, 0, 4), 6))
        self.assertEqual(stepped([[(0, 0), (2, 5)], 3, [(3, 3), (3, 3)]]), ((0, 0, 6), 7))
        self.assertEqual(stepped([[(0, 0), (2, 5)], 3, [(0, 0)]]), ((0, 0, 4), 5))

    def test_no_cells(self):
        for none in ([], ()):
            self.assertEqual(stepped([none]), ((), 0))
            self.assertEqual(stepped([[(0, 0), (2, 5)], none]), ((0, 0, 7), 8))
            self.assertEqual(stepped([[(0, 0), (2, 5)], 9, none]), ((), 0))

    def test_beats_of_nought(self):
        self.assertEqual(stepped([[(0, 0), (2, 5)], 0]), ((0, 0, 7), 8))
        self.assertEqual(stepped([[(0, 0), (2, 5)], 0, 0, 2, 0]), ((0, 0, 5), 6))

    def test_nought_and_less_together(self):
        self.assertEqual(stepped([[(0, 0), (2, 5)], 7]), ((0, 0, 0), 1))
        self.assertEqual(stepped([[(0, 0), (2, 5)], 7, 0]), ((0, 0, 0), 1))
        self.assertEqual(stepped([[(0, 0), (2, 5)], 8]), ((), 0))
        self.assertEqual(stepped([[(0, 0), (2, 5)], 7, 1]), ((), 0))
        self.assertEqual(stepped([[(0, 0), (2, 5)], FAR]), ((), 0))

    def test_cells_that_break_behind_that(self):
        # Nothing of the first ones is left over: the limits are the new cells' alone.
        self.assertEqual(stepped([[(0, 0), (2, 5)], 8, [(-9, -9)]]), ((9, 9, -18), 1))
        self.assertEqual(stepped([[(0, 0), (2, 5)], FAR, [(1, 1), (2, 1)]]), ((-1, -1, 3), 2))
        # One beat earlier they still count.
        self.assertEqual(stepped([[(0, 0), (2, 5)], 7, [(-9, -9)]]), ((9, 9, 0), 19))

    def test_far(self):
        self.assertEqual(stepped([[(-FAR, -FAR), (FAR, FAR)], FAR]), ((FAR, FAR, FAR), 3 * FAR + 1))
        self.assertEqual(stepped([((FAR, FAR),), 0]), ((-FAR, -FAR, 2 * FAR), 1))
        self.assertEqual(stepped([[(0, 0), (FAR, 0)], FAR]), ((0, 0, 0), 1))
        self.assertEqual(stepped([[(0, 0), (FAR, 0)], FAR - 1, 2]), ((), 0))

    def test_as_papers_tell(self):
        chance = random.Random(341)
        for plain, paper in healing_rules(34, 30):
            island = tuple(sorted({chance_cell(chance, 9) for k in range(6)}))
            for many in (0, 1, 2, 5, FAR):
                watch = Watch(plain, paper)
                self.assertIsNone(watch.broke(island))
                self.assertEqual(watch.by(), sure_beats(paper, island))
                self.assertIsNone(watch.go(many))
                self.assertEqual(watch.limits(), limits_of(paper, island, many))
                self.assertEqual(watch.by(), max(0, sure_beats(paper, island) - many))

    def test_what_is_told(self):
        watch = Watch(TOOM, TOOM_PAPER)
        watch.broke([(0, 0), (5, 5)])
        self.assertEqual(kinds_in(watch.limits()), {tuple, int})
        self.assertIs(type(watch.by()), int)


class BesideFloors(unittest.TestCase):
    def test_cells_that_break_at_several_beats(self):
        chance = random.Random(342)
        for plain, paper in healing_rules(343, 40):
            floor, watch = Floor(plain), Watch(plain, paper)
            for turn in range(6):
                cells = [chance_cell(chance, chance.choice((1, 4))) for k in range(chance.randint(0, 5))]
                floor.broke(cells)
                watch.broke(cells)
                self.within(paper, floor, watch)
                many = chance.randint(1, 4)
                floor.go(many)
                watch.go(many)
                self.within(paper, floor, watch)
            left = watch.by()
            if left > 0:
                floor.go(left)
            self.assertEqual(floor.broken(), ())
            watch.go(left)
            self.assertEqual((watch.limits(), watch.by()), ((), 0))

    def within(self, paper, floor, watch):
        """All that is broken lies within the limits."""
        for cell in floor.broken():
            self.assertEqual(len(watch.limits()), len(paper[2]))
            for slope, limit in zip(paper[2], watch.limits()):
                self.assertLessEqual(value(slope, cell), limit)
        self.assertEqual(watch.by() == 0, watch.limits() == ())


class Kept(unittest.TestCase):
    def test_lists_changed_later(self):
        cells = [(0, 0), (2, 5)]
        watch = Watch(TOOM, TOOM_PAPER)
        watch.broke(cells)
        cells.append((99, 99))
        cells[0] = (-99, 0)
        self.assertEqual((watch.limits(), watch.by()), ((0, 0, 7), 8))
        watch.go(1)
        self.assertEqual((watch.limits(), watch.by()), ((0, 0, 6), 7))
        self.assertEqual(cells, [(-99, 0), (2, 5), (99, 99)])

    def test_side_by_side(self):
        one, other = Watch(TOOM, TOOM_PAPER), Watch(PAIR, PAIR_PAPER)
        one.broke([(0, 0), (2, 5)])
        self.assertEqual((other.limits(), other.by()), ((), 0))
        other.broke([(3, 0), (9, 4)])
        one.go(8)
        self.assertEqual((one.limits(), one.by()), ((), 0))
        self.assertEqual((other.limits(), other.by()), ((-3, 9), 7))

    def test_asked_again(self):
        watch = Watch(TOOM, TOOM_PAPER)
        watch.broke([(0, 0), (2, 5)])
        self.assertEqual((watch.limits(), watch.by()), (watch.limits(), watch.by()))


if __name__ == "__main__":
    unittest.main()
