"""What rules break, and which books are let by."""

import itertools
import random
import unittest

from healfloor.errors import FloorError, NoName
from healfloor.rules import breaks, look_book
from helpers import all_broken, chance_cell, chance_rule

HERE = ("cell", 0, 0)
EAST = ("cell", 1, 0)
NORTH = ("cell", 0, 1)
WEST = ("cell", -1, 0)
FAR = 10 ** 18
THREE = (HERE, EAST, NORTH)
THREE_CELLS = ((0, 0), (0, 1), (1, 0))


def islands_of(cells):
    for many in range(len(cells) + 1):
        for island in itertools.combinations(sorted(cells), many):
            yield island


class Forms(unittest.TestCase):
    def test_cell(self):
        rule = ("cell", 2, -1)
        self.assertIs(breaks(rule, ((5, 3),), (3, 4)), True)
        self.assertIs(breaks(rule, ((3, 4),), (3, 4)), False)
        self.assertIs(breaks(rule, ((1, 5),), (3, 4)), False)

    def test_all(self):
        for island in islands_of(THREE_CELLS):
            self.assertIs(breaks(("all", THREE), island, (0, 0)), len(island) == 3)
        self.assertIs(breaks(("all", (EAST,)), ((1, 0),), (0, 0)), True)
        self.assertIs(breaks(("all", (EAST,)), ((0, 0),), (0, 0)), False)

    def test_any(self):
        for island in islands_of(THREE_CELLS):
            self.assertIs(breaks(("any", THREE), island, (0, 0)), len(island) > 0)
        self.assertIs(breaks(("any", (EAST,)), ((1, 0),), (0, 0)), True)

    def test_least(self):
        for k in (1, 2, 3):
            for island in islands_of(THREE_CELLS):
                self.assertIs(breaks(("least", k, THREE), island, (0, 0)), len(island) >= k)
        nine = tuple([("cell", x, 0) for x in range(9)])
        for k in range(1, 10):
            for many in range(10):
                for island in (tuple([(x, 0) for x in range(many)]), tuple([(8 - x, 0) for x in reversed(range(many))])):
                    self.assertIs(breaks(("least", k, nine), island, (0, 0)), many >= k)

    def test_least_counts_like_parts_each(self):
        self.assertIs(breaks(("least", 2, (HERE, HERE, EAST)), ((0, 0),), (0, 0)), True)
        self.assertIs(breaks(("least", 2, (HERE, HERE, EAST)), ((1, 0),), (0, 0)), False)

    def test_at(self):
        rule = ("at", 2, 5, ("cell", 1, -1))
        self.assertIs(breaks(rule, ((3, 4),), (0, 0)), True)
        self.assertIs(breaks(rule, ((1, -1),), (0, 0)), False)
        self.assertIs(breaks(("at", 1, 0, ("at", 0, 1, HERE)), ((1, 1),), (0, 0)), True)
        self.assertIs(breaks(("at", 1, 0, ("all", (HERE, NORTH))), ((1, 0), (1, 1)), (0, 0)), True)
        self.assertIs(breaks(("at", 1, 0, ("all", (HERE, NORTH))), ((0, 0), (0, 1)), (0, 0)), False)

    def test_by(self):
        turn = (0, -1, 1, 0)
        self.assertIs(breaks(("by", turn, EAST), ((0, 1),), (0, 0)), True)
        self.assertIs(breaks(("by", turn, EAST), ((1, 0),), (0, 0)), False)
        self.assertIs(breaks(("by", (1, 2, 3, 4), ("cell", 5, 6)), ((17, 39),), (0, 0)), True)
        self.assertIs(breaks(("by", (1, 2, 3, 4), ("cell", 5, 6)), ((27, 49),), (10, 10)), True)

    def test_tables_within_tables(self):
        # The inner one leads (1, 0) to (2, 0), the outer one (x, y) to (-y, x).
        rule = ("by", (0, -1, 1, 0), ("by", (2, 0, 0, 1), EAST))
        self.assertIs(breaks(rule, ((0, 2),), (0, 0)), True)
        self.assertIs(breaks(rule, ((0, 1),), (0, 0)), False)
        # The other way about: (1, 0) to (0, 1), and this to itself.
        rule = ("by", (2, 0, 0, 1), ("by", (0, -1, 1, 0), EAST))
        self.assertIs(breaks(rule, ((0, 1),), (0, 0)), True)
        self.assertIs(breaks(rule, ((0, 2),), (0, 0)), False)
        # (1, 0) to (1, 1), to (3, 1), to (-1, 3).
        rule = ("by", (0, -1, 1, 0), ("by", (1, 2, 0, 1), ("by", (1, 0, 1, 1), EAST)))
        self.assertIs(breaks(rule, ((-1, 3),), (0, 0)), True)

    def test_at_and_by_within_one_another(self):
        turn = (0, -1, 1, 0)
        self.assertIs(breaks(("by", turn, ("at", 1, 0, EAST)), ((0, 2),), (0, 0)), True)
        self.assertIs(breaks(("at", 1, 0, ("by", turn, EAST)), ((1, 1),), (0, 0)), True)
        self.assertIs(breaks(("at", 1, 0, ("by", turn, EAST)), ((0, 2),), (0, 0)), False)
        self.assertIs(breaks(("by", turn, ("any", (("at", 1, 0, WEST), NORTH))), ((-1, 0),), (0, 0)), True)

    def test_table_is_left_behind(self):
        rule = ("all", (("by", (0, -1, 1, 0), EAST), EAST))
        self.assertIs(breaks(rule, ((0, 1), (1, 0)), (0, 0)), True)
        self.assertIs(breaks(rule, ((0, 1),), (0, 0)), False)

    def test_then(self):
        # All of the two beside it, at two beats: three in a row.
        rule = ("then", ("all", (HERE, EAST)), ("all", (HERE, EAST)))
        self.assertIs(breaks(rule, ((0, 0), (1, 0), (2, 0)), (0, 0)), True)
        self.assertIs(breaks(rule, ((0, 0), (1, 0), (3, 0)), (0, 0)), False)
        # E first, F behind it: the north of two that are broken together, not two norths of one.
        one = ("then", ("all", (HERE, EAST)), ("any", (NORTH, EAST)))
        self.assertIs(breaks(one, ((0, 1), (1, 1)), (0, 0)), True)
        self.assertIs(breaks(one, ((1, 0), (0, 1)), (0, 0)), False)
        other = ("then", ("any", (NORTH, EAST)), ("all", (HERE, EAST)))
        self.assertIs(breaks(other, ((1, 0), (2, 0)), (0, 0)), True)
        self.assertIs(breaks(other, ((0, 1), (2, 0)), (0, 0)), True)
        self.assertIs(breaks(one, ((0, 1), (2, 0)), (0, 0)), False)

    def test_then_within_then(self):
        for rule in (("then", ("then", EAST, EAST), NORTH), ("then", EAST, ("then", EAST, NORTH))):
            self.assertIs(breaks(rule, ((2, 1),), (0, 0)), True)
            self.assertIs(breaks(rule, ((1, 1),), (0, 0)), False)
        pair = ("all", (HERE, EAST))
        row = tuple([(x, 0) for x in range(5)])
        rule = ("then", ("then", pair, pair), ("then", pair, pair))
        self.assertIs(breaks(rule, row, (0, 0)), True)
        for lost in row:
            self.assertIs(breaks(rule, tuple([cell for cell in row if cell != lost]), (0, 0)), False)

    def test_then_led(self):
        rule = ("by", (0, -1, 1, 0), ("then", EAST, ("all", (HERE, EAST))))
        self.assertIs(breaks(rule, ((0, 1), (0, 2)), (0, 0)), True)
        self.assertIs(breaks(rule, ((1, 0), (2, 0)), (0, 0)), False)

    def test_great_thens(self):
        nine = tuple([("cell", 10 * x, x) for x in range(9)])
        island = tuple(sorted([(x, y) for x in range(20) for y in range(20)]))
        rule = ("then", ("then", ("least", 5, nine), ("least", 5, nine)), ("then", ("any", nine), ("least", 9, nine)))
        self.assertIs(breaks(rule, island, (0, 0)), (0, 0) in all_broken(rule, set(island)))


class Floors(unittest.TestCase):
    def test_empty_island(self):
        chance = random.Random(6)
        for turn in range(100):
            self.assertIs(breaks(chance_rule(chance, 5), (), chance_cell(chance)), False)

    def test_far_out(self):
        rule = ("all", (("cell", 1000, -1000), ("at", -1000, 1000, ("by", (9, 0, 0, -9), ("cell", 1000, 1000)))))
        for x, y in itertools.product((FAR, -FAR), (FAR, -FAR)):
            island = tuple(sorted(((x + 1000, y - 1000), (x + 8000, y - 8000))))
            self.assertIs(breaks(rule, island, (x, y)), True)
            self.assertIs(breaks(rule, island, (x - 1, y)), False)
            self.assertIs(breaks(rule, island[:1], (x, y)), False)

    def test_by_whole_floors(self):
        chance = random.Random(66)
        for turn in range(400):
            rule = chance_rule(chance, 5)
            island = tuple(sorted({chance_cell(chance, 4) for k in range(chance.randint(0, 40))}))
            wanted = all_broken(rule, set(island))
            asked = wanted | set(island) | {chance_cell(chance, 9) for k in range(30)}
            for cell in sorted(asked):
                self.assertIs(breaks(rule, island, cell), cell in wanted, (rule, island, cell))

    def test_asked_again(self):
        rule = ("then", ("any", (HERE, EAST)), ("all", (HERE, EAST)))
        island = ((0, 0), (2, 0))
        first = [breaks(rule, island, (x, 0)) for x in range(-3, 4)]
        breaks(("any", THREE), ((5, 5),), (0, 0))
        self.assertEqual([breaks(rule, island, (x, 0)) for x in range(-3, 4)], first)


class Books(unittest.TestCase):
    def refused(self, book, name):
        with self.assertRaises(NoName) as taken:
            look_book(book)
        self.assertEqual(taken.exception.name, name)
        self.assertIs(type(taken.exception), NoName)
        self.assertIsInstance(taken.exception, FloorError)

    def test_let_by(self):
        self.assertIsNone(look_book(()))
        self.assertIsNone(look_book((("a", HERE),)))
        self.assertIsNone(look_book((("a", HERE), ("b", ("name", "a")), ("c", ("all", (("name", "b"), ("name", "a")))))))

    def test_own_name(self):
        self.refused((("a", ("name", "a")),), "a")
        self.refused((("a", HERE), ("b", ("all", (("name", "a"), ("name", "b"))))), "b")

    def test_later_name(self):
        self.refused((("a", ("name", "b")), ("b", HERE)), "b")

    def test_no_name(self):
        self.refused((("a", HERE), ("b", ("name", "far"))), "far")

    def test_in_each_form(self):
        lost = ("name", "lost")
        known = ("name", "a")
        for rule in (lost, ("all", (known, lost)), ("any", (lost,)), ("least", 2, (known, known, lost)),
                     ("at", 1, 2, lost), ("by", (1, 0, 0, 1), lost), ("then", lost, known), ("then", known, lost)):
            self.refused((("a", HERE), ("b", rule)), "lost")
            self.refused((("a", HERE), ("b", ("by", (1, 0, 0, 1), ("at", 0, 0, ("any", (HERE, rule)))))), "lost")

    def test_first_name_from_left_to_right(self):
        p, q, r = ("name", "p"), ("name", "q"), ("name", "r")
        self.refused((("a", ("all", (q, p))),), "q")
        self.refused((("a", ("then", r, ("all", (q, p)))),), "r")
        self.refused((("a", ("all", (("any", (HERE, ("at", 0, 0, r))), p))),), "r")
        self.refused((("a", ("least", 1, (HERE, ("then", HERE, q), p))),), "q")
        self.refused((("a", HERE), ("b", ("all", (("name", "a"), ("then", q, r), p)))), "q")

    def test_first_pair_first(self):
        self.refused((("a", ("name", "q")), ("b", ("name", "p"))), "q")
        self.refused((("a", HERE), ("b", ("name", "c")), ("c", ("name", "x"))), "c")


if __name__ == "__main__":
    unittest.main()
