"""Rows, plain rules, healing rows."""

import itertools
import random
import unittest

from healfloor.rows import at_most_as_bad, breaks_by, exchanged, is_healing, is_plain, least_rows
from helpers import cells_of, chance_plain, healing_by_hand, least_by_hand, some_of

A, B, C, D, E = (-1, 2), (0, 0), (0, 1), (3, -3), (3, 5)
FAR = 10 ** 40
MANY = tuple([(x, -x) for x in range(9)])


class Least(unittest.TestCase):
    def test_known(self):
        self.assertEqual(least_rows(((A, B), (A,), (B, C))), ((A,), (B, C)))
        self.assertEqual(least_rows(((B, C), (A, B))), ((A, B), (B, C)))
        self.assertEqual(least_rows(((A, B, C), (A, C), (A, B), (B,))), ((A, C), (B,)))
        self.assertEqual(least_rows(((A, B, C, D), (A, D), (B, C, D))), ((A, D), (B, C, D)))

    def test_doubled(self):
        self.assertEqual(least_rows(((A, B), (A, B), (B,), (B,), (A, B))), ((B,),))
        self.assertEqual(least_rows(((A, B), (A, B))), ((A, B),))

    def test_none_at_all(self):
        self.assertEqual(least_rows(()), ())
        self.assertEqual(least_rows([]), ())

    def test_lists_are_left_as_they_are(self):
        rows = [(B, C), (A, B), (A, B), (A, B, C)]
        kept = list(rows)
        told = least_rows(rows)
        self.assertEqual(told, ((A, B), (B, C)))
        self.assertEqual(rows, kept)
        rows.clear()
        self.assertEqual(told, ((A, B), (B, C)))
        self.assertIs(type(told), tuple)

    def test_in_any_order(self):
        rows = ((A, B), (A, B, C), (B, C), (D,), (C, D), (A, B))
        for turned in itertools.permutations(rows):
            self.assertEqual(least_rows(turned), ((A, B), (B, C), (D,)))
            self.assertEqual(least_rows(list(turned)), ((A, B), (B, C), (D,)))

    def test_by_chance(self):
        chance = random.Random(9)
        for turn in range(200):
            rows = chance.choices(some_of(MANY[:6]), k=chance.randint(1, 30))
            self.assertEqual(least_rows(rows), least_by_hand(rows))

    def test_long_rows(self):
        cells = tuple([(x, 0) for x in range(60)])
        self.assertEqual(least_rows((cells, cells[:59], cells[1:])), (cells[:59], cells[1:]))


class Plain(unittest.TestCase):
    def test_plain_ones(self):
        for thing in (((B,),), ((A, B, C),), ((A, B), (A, C), (B, C)), ((A,), (B,)), (MANY[:8],),
                      tuple([(cell,) for cell in MANY[:8]]), tuple(itertools.combinations(MANY[:8], 4)),
                      (((-FAR, FAR), (FAR, -FAR)),), (((-FAR, 0),), ((FAR, 0),))):
            self.assertIs(is_plain(thing), True, thing)

    def test_none_at_all(self):
        self.assertIs(is_plain(()), False)
        self.assertIs(is_plain(((),)), False)
        self.assertIs(is_plain(((), (A,))), False)
        self.assertIs(is_plain(((A,), ())), False)

    def test_not_rising(self):
        self.assertIs(is_plain(((B, A),)), False)
        self.assertIs(is_plain(((C, B),)), False)
        self.assertIs(is_plain(((B,), (A,))), False)
        self.assertIs(is_plain(((A, C), (A, B), (B, C))), False)
        self.assertIs(is_plain(((A, B), (C, B))), False)
        self.assertIs(is_plain((((FAR, 0), (-FAR, 0)),)), False)

    def test_like_cells_and_rows(self):
        self.assertIs(is_plain(((A, A),)), False)
        self.assertIs(is_plain(((A, A, B),)), False)
        self.assertIs(is_plain(((A,), (A,))), False)
        self.assertIs(is_plain(((A, B), (A, B))), False)

    def test_within_another(self):
        self.assertIs(is_plain(((A,), (A, B))), False)
        self.assertIs(is_plain(((A, B, C), (A, C))), False)
        self.assertIs(is_plain(((A, B), (A, B, C))), False)
        self.assertIs(is_plain(((A, B, C), (B,))), False)

    def test_more_than_eight_cells(self):
        self.assertIs(is_plain((MANY,)), False)
        self.assertIs(is_plain(tuple([(cell,) for cell in MANY])), False)
        self.assertIs(is_plain((MANY[:4], MANY[3:8])), True)
        self.assertIs(is_plain((MANY[:4], MANY[3:9])), False)

    def test_all_of_three_cells(self):
        rows = [()] + some_of((A, B, C))
        for many in range(4):
            for thing in itertools.product(rows, repeat=many):
                wanted = many > 0 and () not in thing and least_by_hand(thing) == thing
                self.assertIs(is_plain(thing), wanted, thing)


class Exchanged(unittest.TestCase):
    def test_known(self):
        self.assertEqual(exchanged(((B,),)), ((B,),))
        self.assertEqual(exchanged(((A, B, C),)), ((A,), (B,), (C,)))
        self.assertEqual(exchanged(((A,), (B,), (C,))), ((A, B, C),))
        self.assertEqual(exchanged(((A, B), (A, C), (B, C))), ((A, B), (A, C), (B, C)))
        self.assertEqual(exchanged(((A, B), (C, D))), ((A, C), (A, D), (B, C), (B, D)))
        self.assertEqual(exchanged(((A,), (B, C))), ((A, B), (A, C)))

    def test_twice_is_the_first_one(self):
        chance = random.Random(11)
        for turn in range(150):
            plain = chance_plain(chance, MANY[:chance.randint(1, 7)])
            once = exchanged(plain)
            self.assertEqual(once, healing_by_hand(plain))
            self.assertIs(is_plain(once), True)
            self.assertEqual(exchanged(once), plain)

    def test_eight_cells(self):
        four = tuple(itertools.combinations(MANY[:8], 4))
        five = tuple(itertools.combinations(MANY[:8], 5))
        self.assertEqual(exchanged(four), five)
        self.assertEqual(exchanged(five), four)
        pairs = (MANY[0:2], MANY[2:4], MANY[4:6], MANY[6:8])
        self.assertEqual(len(exchanged(pairs)), 16)
        self.assertEqual(exchanged(exchanged(pairs)), pairs)

    def test_healing_rows_heal_and_break_in_turn(self):
        chance = random.Random(111)
        for turn in range(40):
            plain = chance_plain(chance, MANY[:5])
            healing = exchanged(plain)
            for whole in [()] + some_of(cells_of(plain)):
                broken = tuple([cell for cell in cells_of(plain) if cell not in whole])
                self.assertIs(breaks_by(plain, broken), not breaks_by(healing, whole))


class Broken(unittest.TestCase):
    def test_known(self):
        plain = ((A, B), (C,))
        for cells, wanted in (((), False), ((A,), False), ((B,), False), ((A, B), True), ((C,), True), ((B, C), True),
                              ((B, D, A), True), ((B, B), False), ((A, D), False), ((C, C, D), True)):
            self.assertIs(breaks_by(plain, cells), wanted, cells)

    def test_far_out(self):
        plain = (((-FAR, 0), (FAR, 0)),)
        self.assertIs(breaks_by(plain, ((FAR, 0), (-FAR, 0))), True)
        self.assertIs(breaks_by(plain, ((FAR, 0), (-FAR, 1))), False)

    def test_is_healing(self):
        plain = ((A, B), (B, C), (D,))
        for row, wanted in (((B, D), True), ((D, B), True), ((A, C, D), True), ((B,), False), ((D,), False),
                            ((A, D), False), ((E,), False), ((E, D, B, B), True), ((A, B, C), False)):
            self.assertIs(is_healing(plain, row), wanted, row)

    def test_healing_by_hand(self):
        chance = random.Random(1111)
        for turn in range(40):
            plain = chance_plain(chance, (A, B, C, D))
            for row in some_of((A, B, C, D, E)):
                self.assertIs(is_healing(plain, row), all(set(row) & set(other) for other in plain))


class AsBad(unittest.TestCase):
    def test_known(self):
        both, one, either = ((A, B),), ((A,),), ((A,), (B,))
        for less, more in ((both, one), (both, either), (one, either)):
            self.assertIs(at_most_as_bad(less, more), True)
            self.assertIs(at_most_as_bad(more, less), False)
        for plain in (both, one, either):
            self.assertIs(at_most_as_bad(plain, plain), True)
        self.assertIs(at_most_as_bad(((A,),), ((B,),)), False)
        self.assertIs(at_most_as_bad(((B,),), ((A,),)), False)
        self.assertIs(at_most_as_bad(((A, B), (C, D)), ((A,), (D,))), True)
        self.assertIs(at_most_as_bad(((A, B), (C, E)), ((A,), (D,))), False)

    def test_on_all_floors(self):
        chance = random.Random(13)
        floors = [()] + some_of((A, B, C, D))
        told = []
        for turn in range(400):
            one, other = [chance_plain(chance, chance.sample((A, B, C, D), chance.randint(1, 4))) for k in range(2)]
            wanted = all(breaks_by(other, floor) for floor in floors if breaks_by(one, floor))
            self.assertIs(at_most_as_bad(one, other), wanted, (one, other))
            told.append(wanted)
        self.assertEqual(set(told), {True, False})

    def test_exchanged_turns_it_about(self):
        chance = random.Random(131)
        for turn in range(100):
            one, other = chance_plain(chance, (A, B, C)), chance_plain(chance, (A, B, C))
            self.assertEqual(at_most_as_bad(one, other), at_most_as_bad(exchanged(other), exchanged(one)))


if __name__ == "__main__":
    unittest.main()
