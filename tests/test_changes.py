"""Plain rules carried, led, put behind one another."""

import itertools
import random
import unittest

from healfloor.beats import beat, beats
from healfloor.changes import behind, plain_carried, plain_led, so_often
from healfloor.errors import FloorError, TooMany
from healfloor.islands import island_carried, island_led
from healfloor.plain import plain_of
from healfloor.rows import is_plain
from helpers import cells_of, chance_cell, chance_plain, chance_table, kinds_in, least_by_hand, some_of

HERE = (((0, 0),),)
PAIR = (((0, 0), (1, 0)),)
EITHER = (((0, 0),), ((1, 0),))
UP = (((0, 0),), ((0, 1),))
TOOM = (((0, 0), (0, 1)), ((0, 0), (1, 0)), ((0, 1), (1, 0)))


def row_of(many):
    return tuple([(x, 0) for x in range(many)])


def chance_few(chance, most, far=1):
    return chance_plain(chance, {chance_cell(chance, far) for k in range(chance.randint(1, most))})


def chance_island(chance):
    return tuple(sorted({chance_cell(chance, 2) for k in range(chance.randint(0, 25))}))


def sums_of(one, other):
    return {(a + c, b + d) for a, b in cells_of(one) for c, d in cells_of(other)}


def behind_by_hand(one, other):
    """Two beats on each set of the sums; None where these are too many."""
    cells = sums_of(one, other)
    if len(cells) > 8:
        return None
    return least_by_hand([row for row in some_of(cells) if (0, 0) in beat(other, beat(one, row))])


def often_by_hand(plain, many):
    told = plain
    for turn in range(many - 1):
        told = None if told is None else behind_by_hand(told, plain)
    return told


class Carried(unittest.TestCase):
    def test_known(self):
        self.assertEqual(plain_carried(PAIR, (0, 0)), PAIR)
        self.assertEqual(plain_carried(PAIR, (-5, 7)), (((-5, 7), (-4, 7)),))
        self.assertEqual(plain_carried(TOOM, (1000, -1000)),
                         (((1000, -1000), (1000, -999)), ((1000, -1000), (1001, -1000)), ((1000, -999), (1001, -1000))))

    def test_a_beat_and_the_island_carried(self):
        chance = random.Random(17)
        for turn in range(200):
            plain, island, by = chance_few(chance, 6), chance_island(chance), chance_cell(chance, 1000)
            told = plain_carried(plain, by)
            self.assertIs(is_plain(told), True)
            self.assertEqual(kinds_in(told), {tuple, int})
            self.assertEqual(beat(told, island), island_carried(beat(plain, island), (-by[0], -by[1])))
            self.assertEqual(plain_carried(told, (-by[0], -by[1])), plain)


class Led(unittest.TestCase):
    def test_known(self):
        self.assertEqual(plain_led(TOOM, (1, 0, 0, 1)), TOOM)
        self.assertEqual(plain_led(PAIR, (0, -1, 1, 0)), (((0, 0), (0, 1)),))
        self.assertEqual(plain_led(PAIR, (2, 5, 3, 1)), (((0, 0), (2, 3)),))

    def test_turned_about(self):
        self.assertEqual(plain_led(PAIR, (-1, 0, 0, -1)), (((-1, 0), (0, 0)),))
        self.assertEqual(plain_led(EITHER, (-1, 0, 0, 1)), (((-1, 0),), ((0, 0),)))
        self.assertEqual(plain_led((((0, 0), (1, 0)), ((2, 0), (3, 0))), (-1, 0, 0, 1)),
                         (((-3, 0), (-2, 0)), ((-1, 0), (0, 0))))
        self.assertEqual(plain_led((((0, 3), (1, 0)), ((0, 5),), ((2, 1),)), (0, 1, 1, 0)),
                         (((0, 1), (3, 0)), ((1, 2),), ((5, 0),)))

    def test_island_led_and_stepped(self):
        chance = random.Random(171)
        for turn in range(200):
            plain, island = chance_few(chance, 6), chance_island(chance)
            table = chance_table(chance, chance.choice((1, 9)))
            told = plain_led(plain, table)
            self.assertIs(is_plain(told), True)
            self.assertEqual(kinds_in(told), {tuple, int})
            self.assertEqual(beat(told, island_led(island, table)), island_led(beat(plain, island), table))

    def test_carried_and_led_as_rules_are(self):
        a, b = ("cell", 2, -1), ("cell", 0, 3)
        rule = ("all", (a, b))
        self.assertEqual(plain_carried(plain_of(rule), (4, 5)), plain_of(("at", 4, 5, rule)))
        self.assertEqual(plain_led(plain_of(rule), (1, 2, 3, 4)), plain_of(("by", (1, 2, 3, 4), rule)))


class Behind(unittest.TestCase):
    def refused(self, call, *args):
        with self.assertRaises(TooMany, msg=args) as taken:
            call(*args)
        self.assertEqual(taken.exception.many, 8)
        self.assertIs(type(taken.exception.many), int)
        self.assertIsInstance(taken.exception, FloorError)

    def test_known(self):
        self.assertEqual(behind(PAIR, PAIR), (row_of(3),))
        self.assertEqual(behind(EITHER, EITHER), (((0, 0),), ((1, 0),), ((2, 0),)))
        self.assertEqual(behind(HERE, TOOM), TOOM)
        self.assertEqual(behind(TOOM, HERE), TOOM)
        self.assertEqual(behind((((1, 0),),), (((0, 1),),)), (((1, 1),),))

    def test_one_first(self):
        self.assertEqual(behind(PAIR, UP), (((0, 0), (1, 0)), ((0, 1), (1, 1))))
        self.assertEqual(behind(UP, PAIR),
                         (((0, 0), (1, 0)), ((0, 0), (1, 1)), ((0, 1), (1, 0)), ((0, 1), (1, 1))))

    def test_two_beats(self):
        chance = random.Random(18)
        told = []
        for turn in range(200):
            one, other = chance_few(chance, 6, 2), chance_few(chance, 6, 2)
            wanted = behind_by_hand(one, other)
            told.append(wanted is None)
            if wanted is None:
                self.refused(behind, one, other)
                continue
            self.assertEqual(behind(one, other), wanted)
            self.assertIs(is_plain(wanted), True)
            self.assertEqual(kinds_in(behind(one, other)), {tuple, int})
            island = chance_island(chance)
            self.assertEqual(beat(behind(one, other), island), beat(other, beat(one, island)))
        self.assertGreater(told.count(True), 20)
        self.assertGreater(told.count(False), 40)

    def test_eight_and_nine_cells(self):
        four, five = row_of(4), row_of(5)
        each = tuple([(cell,) for cell in four])
        self.assertEqual(behind((five,), (four,)), (row_of(8),))
        self.assertEqual(behind((five,), each), tuple([tuple([(x + k, 0) for x in range(5)]) for k in range(4)]))
        self.refused(behind, (five,), (five,))
        self.refused(behind, (row_of(3),), (((0, 0), (0, 1), (0, 2)),))
        self.assertEqual(len(cells_of(behind((row_of(4),), UP))), 8)
        self.assertEqual(behind((row_of(8),), (((3, 4),),)), (tuple([(x + 3, 4) for x in range(8)]),))
        self.refused(behind, (row_of(8),), EITHER)

    def test_counted_are_sums_not_what_the_rule_needs(self):
        ends = (((-2, 0), (2, 0)), ((0, 0),))
        self.assertEqual(behind((row_of(4),), ends), (row_of(4),))
        self.refused(behind, (row_of(5),), ends)

    def test_great_numbers(self):
        far = 10 ** 40
        self.assertEqual(behind((((-far, 0), (far, 0)),), (((0, far),),)), (((-far, far), (far, far)),))


class SoOften(unittest.TestCase):
    refused = Behind.refused

    def test_once(self):
        for plain in (HERE, PAIR, TOOM, (row_of(8),), tuple(itertools.combinations(row_of(8), 4))):
            self.assertEqual(so_often(plain, 1), plain)

    def test_known(self):
        for many in range(1, 8):
            self.assertEqual(so_often(PAIR, many), (row_of(many + 1),))
            self.assertEqual(so_often(EITHER, many), tuple([(cell,) for cell in row_of(many + 1)]))
        for many in range(1, 9):
            self.assertEqual(so_often((((2, -3),),), many), (((2 * many, -3 * many),),))
            self.assertEqual(so_often(HERE, many), HERE)

    def test_eight_and_nine_cells(self):
        self.assertEqual(so_often(PAIR, 7), (row_of(8),))
        self.refused(so_often, PAIR, 8)
        self.refused(so_often, (row_of(8),), 2)
        self.assertEqual(len(cells_of(so_often((((0, 0), (0, 1), (1, 0)),), 2))), 6)
        self.refused(so_often, (((0, 0), (0, 1), (1, 0)),), 3)

    def test_refused_as_soon_as_that_is_so(self):
        # Sums of three and more are ever more cells; each number of times from there on is refused.
        for many in range(3, 9):
            self.refused(so_often, TOOM, many)
        for many in range(2, 9):
            self.refused(so_often, (row_of(5),), many)

    def test_counted_are_the_cells_that_are_needed_so_far(self):
        # Twice this rule is itself: however often, five sums are looked at, though seventeen cells are eight together.
        plain = (((-1, 0), (1, 0)), ((0, 0),))
        for many in range(1, 9):
            self.assertEqual(so_often(plain, many), plain)
            self.assertEqual(so_often(plain_carried(plain, (1, 5)), many), plain_carried(plain, (many, 5 * many)))
        self.assertEqual(so_often((((-3, 0), (-1, 0)), ((-3, 0), (1, 0)), ((-1, 0), (1, 0)), ((-1, 0), (3, 0))), 3),
                         (((-5, 0), (-3, 0)), ((-5, 0), (-1, 0)), ((-3, 0), (-1, 0)), ((-3, 0), (1, 0))))

    def test_so_many_beats(self):
        chance = random.Random(181)
        told = []
        for turn in range(150):
            plain, many = chance_few(chance, 4), chance.randint(1, 8)
            wanted = often_by_hand(plain, many)
            told.append(wanted is None)
            if wanted is None:
                self.refused(so_often, plain, many)
                continue
            self.assertEqual(so_often(plain, many), wanted)
            island = chance_island(chance)
            self.assertEqual(beat(so_often(plain, many), island), beats(plain, island, many))
        self.assertGreater(told.count(True), 20)
        self.assertGreater(told.count(False), 20)


class AskedAgain(unittest.TestCase):
    def test_told_the_same(self):
        def ask():
            return [plain_carried(TOOM, (1, 2)), plain_led(TOOM, (0, 1, 1, 0)), behind(PAIR, UP), so_often(TOOM, 2)]

        first = ask()
        for turn in range(2):
            with self.assertRaises(TooMany):
                so_often(TOOM, 5)
            self.assertEqual(ask(), first)


if __name__ == "__main__":
    unittest.main()
