"""Floors: cells broken and mended by hand, beats, and deeds taken back."""

import random
import unittest

from healfloor.beats import beats
from healfloor.floors import Floor
from helpers import all_broken, chance_cell, kinds_in

FAR = 10 ** 18
STILL = (((0, 0),),)
PAIR = (((0, 0), (1, 0)),)
TOOM = (((0, 0), (0, 1)), ((0, 0), (1, 0)), ((0, 1), (1, 0)))
AWAY = (((1, -2),),)


def as_rule(plain):
    return ("any", tuple([("all", tuple([("cell",) + cell for cell in row])) for row in plain]))


class ByHand(unittest.TestCase):
    def test_all_whole_at_first(self):
        floor = Floor(PAIR)
        self.assertEqual((floor.broken(), floor.gone(), floor.back()), ((), 0, False))
        self.assertEqual((floor.broken(), floor.gone()), ((), 0))

    def test_break(self):
        floor = Floor(PAIR)
        self.assertIsNone(floor.broke([(3, 1), (0, 0), (3, 1)]))
        self.assertEqual(floor.broken(), ((0, 0), (3, 1)))
        self.assertIsNone(floor.broke(((0, 0), (-5, 2))))
        self.assertEqual(floor.broken(), ((-5, 2), (0, 0), (3, 1)))
        for none in ([], ()):
            self.assertIsNone(floor.broke(none))
            self.assertEqual(floor.broken(), ((-5, 2), (0, 0), (3, 1)))
        floor.broke(((FAR, -FAR),))
        self.assertEqual(floor.broken()[-1], (FAR, -FAR))
        self.assertEqual(floor.gone(), 0)

    def test_mend(self):
        floor = Floor(PAIR)
        floor.broke(((0, 0), (1, 0), (2, 0), (3, 0)))
        self.assertIsNone(floor.mend([(2, 0), (9, 9), (2, 0), (0, 0)]))
        self.assertEqual(floor.broken(), ((1, 0), (3, 0)))
        self.assertIsNone(floor.mend(()))
        self.assertIsNone(floor.mend([]))
        self.assertEqual(floor.broken(), ((1, 0), (3, 0)))
        self.assertIsNone(floor.mend(((3, 0), (1, 0))))
        self.assertEqual(floor.broken(), ())
        self.assertIsNone(floor.mend(((3, 0),)))
        self.assertEqual((floor.broken(), floor.gone()), ((), 0))

    def test_what_is_told(self):
        floor = Floor(TOOM)
        floor.broke([(1, 1), (0, 0), (0, 1)])
        floor.go(1)
        self.assertEqual(kinds_in(floor.broken()), {tuple, int})
        self.assertIs(type(floor.gone()), int)
        self.assertIs(floor.back(), True)
        self.assertIs(floor.back(), True)
        self.assertIs(floor.back(), False)


class Beats(unittest.TestCase):
    def test_beats(self):
        floor = Floor(PAIR)
        floor.broke([(x, 0) for x in range(10)])
        self.assertIsNone(floor.go(1))
        self.assertEqual(floor.broken(), tuple([(x, 0) for x in range(9)]))
        floor.go(4)
        self.assertEqual((floor.broken(), floor.gone()), (tuple([(x, 0) for x in range(5)]), 5))
        floor.broke(((5, 0),))
        floor.go(5)
        self.assertEqual((floor.broken(), floor.gone()), (((0, 0),), 10))
        floor.go(1)
        self.assertEqual((floor.broken(), floor.gone()), ((), 11))
        floor.go(60)
        self.assertEqual((floor.broken(), floor.gone()), ((), 71))

    def test_away(self):
        floor = Floor(AWAY)
        floor.broke(((FAR, FAR),))
        floor.go(60)
        self.assertEqual(floor.broken(), ((FAR - 60, FAR + 120),))

    def test_against_rules(self):
        chance = random.Random(33)
        for plain in (PAIR, TOOM, AWAY, (((0, 0), (1, 1)), ((0, 1),))):
            cells = {chance_cell(chance, 4) for k in range(30)}
            floor = Floor(plain)
            floor.broke(sorted(cells))
            for many in (1, 2, 3):
                floor.go(many)
                for turn in range(many):
                    cells = all_broken(as_rule(plain), cells)
                self.assertEqual(floor.broken(), tuple(sorted(cells)))


class Back(unittest.TestCase):
    def test_each_kind_of_deed(self):
        floor = Floor(PAIR)
        floor.broke([(0, 0), (1, 0), (2, 0)])
        floor.go(1)
        floor.mend([(0, 0)])
        self.assertEqual((floor.broken(), floor.gone()), (((1, 0),), 1))
        self.assertIs(floor.back(), True)
        self.assertEqual((floor.broken(), floor.gone()), (((0, 0), (1, 0)), 1))
        self.assertIs(floor.back(), True)
        self.assertEqual((floor.broken(), floor.gone()), (((0, 0), (1, 0), (2, 0)), 0))
        self.assertIs(floor.back(), True)
        self.assertEqual((floor.broken(), floor.gone()), ((), 0))
        self.assertIs(floor.back(), False)
        self.assertIs(floor.back(), False)
        self.assertEqual((floor.broken(), floor.gone()), ((), 0))

    def test_deeds_that_changed_nothing(self):
        floor = Floor(STILL)
        floor.broke([(0, 0)])
        floor.broke([(0, 0)])
        floor.broke([])
        floor.mend([(5, 5)])
        floor.mend([])
        floor.go(3)
        for turn in range(5):
            self.assertEqual(floor.gone(), 3 if turn == 0 else 0)
            self.assertIs(floor.back(), True)
            self.assertEqual(floor.broken(), ((0, 0),))
        self.assertIs(floor.back(), True)
        self.assertEqual(floor.broken(), ())
        self.assertIs(floor.back(), False)

    def test_beats_of_a_whole_floor(self):
        floor = Floor(PAIR)
        floor.go(7)
        floor.go(8)
        self.assertEqual(floor.gone(), 15)
        self.assertIs(floor.back(), True)
        self.assertEqual(floor.gone(), 7)
        self.assertIs(floor.back(), True)
        self.assertEqual((floor.gone(), floor.back()), (0, False))

    def test_taken_back_is_gone(self):
        floor = Floor(STILL)
        floor.broke([(0, 0)])
        floor.broke([(1, 0)])
        self.assertTrue(floor.back())
        floor.broke([(2, 0)])
        self.assertTrue(floor.back())
        self.assertEqual(floor.broken(), ((0, 0),))
        self.assertTrue(floor.back())
        self.assertFalse(floor.back())
        floor.broke([(3, 0)])
        self.assertEqual(floor.broken(), ((3, 0),))
        self.assertTrue(floor.back())
        self.assertFalse(floor.back())

    def test_many_deeds(self):
        chance = random.Random(331)
        floor = Floor(TOOM)
        states = []
        for deed in range(120):
            states.append((floor.broken(), floor.gone()))
            cells = [chance_cell(chance, 5) for k in range(chance.randint(0, 9))]
            due = set(floor.broken())
            what = deed % 4
            if what in (0, 1):
                floor.broke(cells)
                due = due | set(cells)
            elif what == 2:
                floor.mend(tuple(cells))
                due = due - set(cells)
            else:
                floor.go(1 + deed % 3)
                due = set(beats(TOOM, states[-1][0], 1 + deed % 3))
            self.assertEqual(floor.broken(), tuple(sorted(due)))
        for state in reversed(states):
            self.assertIs(floor.back(), True)
            self.assertEqual((floor.broken(), floor.gone()), state)
        self.assertIs(floor.back(), False)


class Kept(unittest.TestCase):
    def test_lists_changed_later(self):
        cells = [(0, 0), (1, 0)]
        floor = Floor(STILL)
        floor.broke(cells)
        cells.append((9, 9))
        cells[0] = (7, 7)
        self.assertEqual(floor.broken(), ((0, 0), (1, 0)))
        gone = [(0, 0)]
        floor.mend(gone)
        gone.append((1, 0))
        self.assertEqual(floor.broken(), ((1, 0),))
        floor.back()
        self.assertEqual(floor.broken(), ((0, 0), (1, 0)))
        self.assertEqual((cells, gone), ([(7, 7), (1, 0), (9, 9)], [(0, 0), (1, 0)]))

    def test_what_is_handed_in_stays(self):
        cells = [(3, 0), (0, 0), (3, 0)]
        floor = Floor(PAIR)
        floor.broke(cells)
        floor.go(2)
        floor.mend(cells)
        self.assertEqual(cells, [(3, 0), (0, 0), (3, 0)])

    def test_side_by_side(self):
        one, other = Floor(STILL), Floor(PAIR)
        one.broke([(0, 0), (1, 0)])
        other.broke([(5, 0), (6, 0)])
        one.go(3)
        self.assertEqual((one.broken(), one.gone()), (((0, 0), (1, 0)), 3))
        self.assertEqual((other.broken(), other.gone()), (((5, 0), (6, 0)), 0))
        other.go(1)
        self.assertTrue(one.back())
        self.assertEqual((other.broken(), other.gone()), (((5, 0),), 1))
        self.assertTrue(one.back())
        self.assertFalse(one.back())
        self.assertTrue(other.back())
        self.assertEqual(other.broken(), ((5, 0), (6, 0)))

    def test_asked_again(self):
        floor = Floor(TOOM)
        floor.broke([(0, 0), (0, 1), (4, 4)])
        floor.go(1)
        self.assertEqual([floor.broken(), floor.gone()] * 2,
                         [floor.broken(), floor.gone(), floor.broken(), floor.gone()])


if __name__ == "__main__":
    unittest.main()
