"""Each rule as its one plain rule."""

import itertools
import random
import time
import unittest

from healfloor.errors import FloorError, NoName, TooMany
from healfloor.plain import plain_of
from healfloor.reading import read_book, read_rule
from healfloor.rows import is_plain
from healfloor.rules import breaks
from helpers import cells_of, chance_rule, kinds_in, least_by_hand, some_of

EIGHT = " ".join(["%d,0" % x for x in range(8)])
NINE = " ".join(["%d,0" % x for x in range(9)])


def carried_by(cells, by):
    return [(cell[0] + by[0], cell[1] + by[1]) for cell in cells]


def led_by(cells, table):
    return [(table[0] * x + table[1] * y, table[2] * x + table[3] * y) for x, y in cells]


def parts_in(rule):
    return {"cell": (), "name": (), "at": rule[3:], "by": rule[2:], "then": rule[1:]}.get(rule[0], rule[-1])


def spelled_out(rule, book):
    """The rule with the book's rules in the place of names."""
    if rule[0] == "name":
        return spelled_out(dict(book)[rule[1]], book)
    if rule[0] in ("all", "any", "least"):
        return rule[:-1] + (tuple([spelled_out(part, book) for part in rule[-1]]),)
    own = len(rule) - len(parts_in(rule))
    return rule[:own] + tuple([spelled_out(part, book) for part in rule[own:]])


def by_hand(rule):
    """The plain rule of a rule without names, or None where TooMany is due: all sets of cells asked by `breaks`."""
    parts = [by_hand(part) for part in parts_in(rule)]
    if None in parts:
        return None
    seen = [cells_of(part) for part in parts]
    form = rule[0]
    if form == "cell":
        cells = [rule[1:]]
    elif form == "at":
        cells = carried_by(seen[0], rule[1:3])
    elif form == "by":
        cells = led_by(seen[0], rule[1])
    elif form == "then":
        cells = {cell for by in seen[0] for cell in carried_by(seen[1], by)}
    else:
        cells = set().union(*seen)
    if len(cells) > 8:
        return None
    return least_by_hand([row for row in some_of(cells) if breaks(rule, row, (0, 0))])


class Same(unittest.TestCase):
    """What is asked of all plain rules told here."""

    def same(self, text, book="", wanted=None):
        rule, pairs = read_rule(text), read_book(book)
        told = plain_of(rule, pairs)
        self.assertEqual(told, by_hand(spelled_out(rule, pairs)), text)
        self.assertIs(is_plain(told), True, text)
        self.assertEqual(kinds_in(told), {tuple, int})
        if wanted is not None:
            self.assertEqual(told, wanted, text)

    def too_many(self, text, book=""):
        for turn in range(2):
            with self.assertRaises(TooMany, msg=text) as taken:
                plain_of(read_rule(text), read_book(book))
            self.assertEqual(taken.exception.many, 8)
            self.assertIs(type(taken.exception.many), int)
            self.assertIsInstance(taken.exception, FloorError)
        self.assertIsNone(by_hand(spelled_out(read_rule(text), read_book(book))), text)


class Forms(Same):
    def test_cell(self):
        self.same("0,0", "", (((0, 0),),))
        self.same("-1000,1000", "", (((-1000, 1000),),))

    def test_all_any_least(self):
        a, b, c = (0, 0), (0, 1), (1, 0)
        self.same("all(1,0 0,0 0,1)", "", ((a, b, c),))
        self.same("any(1,0 0,0 0,1)", "", ((a,), (b,), (c,)))
        self.same("1(1,0 0,0 0,1)", "", ((a,), (b,), (c,)))
        self.same("2(1,0 0,0 0,1)", "", ((a, b), (a, c), (b, c)))
        self.same("3(1,0 0,0 0,1)", "", ((a, b, c),))
        self.same("all(0,0)", "", ((a,),))
        self.same("any(0,0)", "", ((a,),))
        self.same("1(0,0)", "", ((a,),))

    def test_like_parts(self):
        self.same("all(0,0 0,0)", "", (((0, 0),),))
        self.same("any(0,0 0,0)", "", (((0, 0),),))
        self.same("2(0,0 0,0 1,0)", "", (((0, 0),),))
        self.same("3(0,0 0,0 1,0 1,0)", "", (((0, 0), (1, 0)),))

    def test_needless_parts(self):
        self.same("any(0,0 all(0,0 1,0))", "", (((0, 0),),))
        self.same("all(0,0 any(0,0 1,0))", "", (((0, 0),),))
        self.same("any(all(0,0 1,0) all(1,0 2,0) all(0,0 1,0 2,0))", "", (((0, 0), (1, 0)), ((1, 0), (2, 0))))

    def test_each_least_of_eight(self):
        for k in range(1, 9):
            wanted = tuple(itertools.combinations([(x, 0) for x in range(8)], k))
            self.same("%d(%s)" % (k, EIGHT), "", wanted)

    def test_at(self):
        self.same("at(2,-3 1,1)", "", (((3, -2),),))
        self.same("at(-1,0 2(0,0 1,0 2,0))", "",
                  (((-1, 0), (0, 0)), ((-1, 0), (1, 0)), ((0, 0), (1, 0))))
        self.same("at(1000,1000 at(-1000,-1000 0,0))", "", (((0, 0),),))

    def test_by(self):
        self.same("by(0,-1,1,0 1,0)", "", (((0, 1),),))
        self.same("by(1,2,3,4 5,6)", "", (((17, 39),),))
        self.same("by(-1,0,0,-1 all(0,0 1,0))", "", (((-1, 0), (0, 0)),))
        # Rows and the cells in them come to another order.
        self.same("by(-1,0,0,1 any(all(0,0 1,0) all(2,0 3,0)))", "", (((-3, 0), (-2, 0)), ((-1, 0), (0, 0))))
        self.same("by(0,-1,1,0 at(1,0 1,0))", "", (((0, 2),),))
        self.same("at(1,0 by(0,-1,1,0 1,0))", "", (((1, 1),),))
        self.same("by(0,-1,1,0 by(2,0,0,1 1,0))", "", (((0, 2),),))
        self.same("by(2,0,0,1 by(0,-1,1,0 1,0))", "", (((0, 1),),))

    def test_then(self):
        self.same("then(all(0,0 1,0) all(0,0 1,0))", "", (((0, 0), (1, 0), (2, 0)),))
        self.same("then(any(0,0 1,0) any(0,0 1,0))", "", (((0, 0),), ((1, 0),), ((2, 0),)))
        self.same("then(1,0 0,1)", "", (((1, 1),),))
        # E first, then F.
        self.same("then(all(0,0 1,0) any(0,0 0,1))", "", (((0, 0), (1, 0)), ((0, 1), (1, 1))))
        self.same("then(any(0,0 0,1) all(0,0 1,0))", "",
                  (((0, 0), (1, 0)), ((0, 0), (1, 1)), ((0, 1), (1, 0)), ((0, 1), (1, 1))))

    def test_then_within_then(self):
        self.same("then(then(all(0,0 1,0) 0,1) any(0,0 2,0))", "", (((0, 1), (1, 1)), ((2, 1), (3, 1))))
        self.same("then(all(0,0 1,0) then(any(0,0 1,0) all(0,0 2,0)))")
        self.same("then(then(all(0,0 1,0) any(0,0 1,0)) then(any(0,0 0,1) 3,3))")
        self.same("by(1,1,0,2 at(1,2 then(then(all(0,0 1,0) any(0,0 1,0)) 2(0,0 1,0 -1,0))))")

    def test_several_deep(self):
        self.same("2(all(0,0 any(1,0 0,1)) at(0,1 any(0,0 all(1,0 1,1))) by(0,-1,1,0 then(1,0 all(0,0 1,0))))")
        self.same("any(all(any(all(0,0 1,0) 2,0) any(0,1 all(0,0 2,0))) all(any(1,0 0,1) 2(0,0 2,0 1,1)))")
        self.same("at(1,1 at(1,1 at(1,1 at(1,1 at(1,1 at(1,1 at(1,1 at(1,1 at(1,1 1,1)))))))))", "", (((10, 10),),))

    def test_by_chance(self):
        chance = random.Random(12)
        told = []
        for turn in range(400):
            rule = chance_rule(chance, chance.randint(2, 5))
            wanted = by_hand(rule)
            told.append(wanted is None)
            if wanted is None:
                with self.assertRaises(TooMany):
                    plain_of(rule)
            else:
                self.assertEqual(plain_of(rule), wanted, rule)
        self.assertGreater(told.count(False), 100)
        self.assertGreater(told.count(True), 20)

    def test_many_parts(self):
        # Told and read rules may have more than nine.
        self.same("3(%s)" % " ".join(["0,0"] * 20 + ["1,0"] * 2), "", (((0, 0),),))
        self.same("12(%s)" % " ".join(["0,0"] * 11 + ["1,0", "2,0"]), "",
                  (((0, 0), (1, 0)), ((0, 0), (2, 0))))

    def test_sixty_parts_of_many_rows(self):
        book = "a = 4(%s)" % EIGHT
        nine = " ".join(["a"] * 9)
        self.same("all(%s)" % " ".join(["5(%s)" % nine] * 5), book,
                  tuple(itertools.combinations([(x, 0) for x in range(8)], 4)))


class Names(Same):
    def test_by_the_book(self):
        book = "a = all(0,0 1,0)\nb = any(a at(0,1 a))\nc = then(a b)"
        self.same("a", book, (((0, 0), (1, 0)),))
        self.same("b", book, (((0, 0), (1, 0)), ((0, 1), (1, 1))))
        self.same("c", book, (((0, 0), (1, 0), (2, 0)), ((0, 1), (1, 1), (2, 1))))
        self.same("all(a b)", book, (((0, 0), (1, 0)),))
        self.same("then(a a)", book, (((0, 0), (1, 0), (2, 0)),))

    def test_led_and_carried_names(self):
        book = "a = all(0,0 1,0)\nb = at(1,0 a)"
        self.same("by(0,-1,1,0 a)", book, (((0, 0), (0, 1)),))
        self.same("by(0,-1,1,0 b)", book, (((0, 1), (0, 2)),))
        self.same("any(a by(0,-1,1,0 b) at(0,5 b))", book)

    def test_names_by_chance(self):
        chance = random.Random(121)
        taken = 0
        for turn in range(150):
            book = (("a", chance_rule(chance, 2)),)
            book += (("b", chance_rule(chance, 3, ("a",))),)
            book += (("far", chance_rule(chance, 3, ("a", "b"))),)
            rule = chance_rule(chance, 3, ("a", "b", "far"))
            wanted = by_hand(spelled_out(rule, book))
            if wanted is not None:
                taken += 1
                self.assertEqual(plain_of(rule, book), wanted)
            else:
                with self.assertRaises(TooMany):
                    plain_of(rule, book)
        self.assertGreater(taken, 50)

    def test_twenty_pairs_each_with_the_one_ahead_often(self):
        names = [one + other for one in "abcd" for other in "uvwxz"]
        form = {0: "all(%s)", 1: "5(%s)", 2: "any(%s)"}
        rows = ["au = 2(0,0 1,0 0,1)"]
        for at, name in enumerate(names[1:]):
            rows.append("%s = %s" % (name, form[at % 3] % " ".join([names[at]] * 9)))
        book = read_book("\n".join(rows))
        self.assertEqual(len(book), 20)
        started = time.monotonic()
        for name in ("dz", "dx", "au"):
            self.assertEqual(plain_of(("name", name), book), plain_of(book[0][1]))
        self.assertLess(time.monotonic() - started, 5)

    def test_twenty_pairs_of_many_rows(self):
        names = [one + other for one in "abcd" for other in "uvwxz"]
        rows = ["au = 4(%s)" % EIGHT]
        for at, name in enumerate(names[1:]):
            nine = " ".join([names[at]] * 9)
            rows.append("%s = 3(%s)" % (name, " ".join(["%d(%s)" % (k, nine) for k in (2, 4, 5, 6, 8)])))
        book = read_book("\n".join(rows))
        started = time.monotonic()
        self.assertEqual(plain_of(("name", "dz"), book), tuple(itertools.combinations([(x, 0) for x in range(8)], 4)))
        self.assertLess(time.monotonic() - started, 20)

    def test_book_left_out(self):
        for book in ((), None):
            self.assertEqual(plain_of(("cell", 1, 2), book), (((1, 2),),))
        self.assertEqual(plain_of(("cell", 1, 2)), (((1, 2),),))


class NoNames(unittest.TestCase):
    def no_name(self, text, name, book=None):
        rule = read_rule(text)
        with self.assertRaises(NoName, msg=text) as taken:
            plain_of(rule) if book is None else plain_of(rule, read_book(book))
        self.assertEqual(taken.exception.name, name)
        self.assertIsInstance(taken.exception, FloorError)

    def test_no_book(self):
        self.no_name("a", "a")
        self.no_name("a", "a", "")
        self.no_name("all(0,0 at(1,0 by(1,0,0,1 then(0,0 far))))", "far")

    def test_names_are_not_reckoned_beyond_the_call(self):
        self.assertEqual(plain_of(("name", "a"), (("a", ("cell", 0, 0)),)), (((0, 0),),))
        self.no_name("a", "a")
        self.assertEqual(plain_of(("name", "a"), (("a", ("cell", 0, 1)),)), (((0, 1),),))

    def test_first_from_left_to_right(self):
        book = "a = 0,0\nb = a"
        self.no_name("all(a q p)", "q", book)
        self.no_name("all(p q a)", "p", book)
        self.no_name("then(all(b any(a r)) q)", "r", book)
        self.no_name("2(a then(b q) p)", "q", book)
        self.no_name("all(any(0,0 at(0,0 by(1,0,0,1 r))) p q)", "r", book)

    def test_needless_parts_are_looked_at(self):
        self.no_name("any(0,0 all(0,0 q))", "q")
        self.no_name("1(0,0 0,0 q)", "q")

    def test_ahead_of_too_many(self):
        self.no_name("all(%s q)" % NINE, "q")
        self.no_name("any(all(%s) then(0,0 q) p)" % NINE, "q")
        self.no_name("all(a q)", "q", "a = all(%s)" % NINE)


class TooManyCells(Same):
    def test_nine_and_eight_together(self):
        for head in ("all", "any", "1", "5", "8", "9"):
            self.too_many("%s(%s)" % (head, NINE))
        for head in ("all", "any", "1", "5", "8"):
            self.same("%s(%s)" % (head, EIGHT))
            self.same("%s(%s 0,0 7,0)" % (head, EIGHT))

    def test_in_parts_together(self):
        for head in ("all", "any", "2"):
            self.too_many("%s(all(0,0 1,0 2,0 3,0) any(4,0 5,0 6,0 7,0) 8,0)" % head)
            self.too_many("%s(all(0,0 1,0 2,0 3,0 4,0) at(5,0 all(0,0 1,0 2,0 3,0)))" % head)
            self.same("%s(all(0,0 1,0 2,0 3,0 4,0) at(4,0 all(0,0 1,0 2,0 3,0)))" % head)
            self.too_many("%s(all(0,0 1,0 2,0 3,0 4,0) by(0,1,1,0 all(1,0 2,0 3,0 4,0)))" % head)
            self.same("%s(all(0,0 1,0 2,0 3,0 4,0) by(0,1,1,0 all(0,0 1,0 2,0 3,0)))" % head)
            self.same("%s(all(0,0 1,0 2,0 3,0 4,0) by(1,1,0,1 all(0,0 1,0 2,0 3,0)))" % head)

    def test_sums_of_then(self):
        three, up = "all(0,0 1,0 2,0)", "any(0,0 0,1 0,2)"
        self.too_many("then(%s %s)" % (three, up))
        self.too_many("then(%s %s)" % (up, three))
        self.same("then(all(0,0 1,0 2,0 3,0) any(0,0 0,1))")
        self.same("then(any(0,0 0,1) all(0,0 1,0 2,0 3,0))")
        self.same("then(all(0,0 1,0 2,0 3,0 4,0) any(0,0 1,0 2,0 3,0))")
        self.too_many("then(all(0,0 1,0 2,0 3,0 4,0) any(0,0 1,0 2,0 3,0 4,0))")
        self.same("then(all(%s) 5,5)" % EIGHT)
        self.too_many("then(all(%s) any(0,0 1,0))" % EIGHT)
        self.same("then(then(any(0,0 1,0) any(0,0 2,0)) any(0,0 4,0))")
        self.too_many("then(then(any(0,0 1,0) any(0,0 2,0)) any(0,0 4,0 8,0))")
        self.too_many("then(then(any(0,0 1,0) any(0,0 2,0)) then(any(0,0 4,0) any(0,0 8,0)))")

    def test_sums_that_the_rule_does_not_need(self):
        # Where those of both ends break, the one between does: what is needed are E's cells alone.
        self.same("then(all(0,0 1,0 2,0 3,0) any(0,0 all(-2,0 2,0)))", "", (tuple([(x, 0) for x in range(4)]),))
        self.too_many("then(all(0,0 1,0 2,0 3,0 4,0) any(0,0 all(-2,0 2,0)))")

    def test_hidden_in_needless_parts(self):
        self.too_many("any(0,0 all(0,0 1,0 2,0 3,0 4,0 5,0 6,0 7,0 8,0))")
        self.too_many("all(0,0 any(0,0 all(%s)))" % NINE)
        self.too_many("1(0,0 all(%s))" % NINE)
        self.too_many("any(0,0 all(0,0 then(all(0,0 1,0 2,0) all(0,0 0,1 0,2))))")
        self.too_many("at(1,1 by(2,0,0,2 any(0,0 all(0,0 1(%s)))))" % NINE)

    def test_counted_are_the_cells_of_plain_rules(self):
        # More than eight cells are written, yet those of the plain rules of the parts are few.
        needless = " ".join(["any(%d,0 all(%d,0 %d,1))" % (x, x, x) for x in range(8)])
        self.same("all(%s)" % needless, "", (tuple([(x, 0) for x in range(8)]),))
        self.same("then(any(0,0 all(0,0 1,0 2,0 3,0)) all(%s))" % EIGHT)
        self.same("then(all(%s) any(0,0 all(0,0 1,0 2,0 3,0)))" % EIGHT)
        self.same("any(at(5,5 any(0,0 all(0,0 1,1 2,2 3,3))) %s)" % " ".join(["%d,0" % x for x in range(7)]))

    def test_in_the_book(self):
        book = "a = 0,0\nb = all(%s)\nc = any(a all(a b))\nd = a" % NINE
        for text in ("b", "c", "all(a b)", "any(a all(a c))"):
            self.too_many(text, book)
        for text in ("a", "d", "all(a d)"):
            self.same(text, book, (((0, 0),),))
        self.same("1,0", book, (((1, 0),),))

    def test_names_together(self):
        book = "a = all(0,0 1,0 2,0 3,0)\nb = at(4,0 a)\nc = at(5,0 a)"
        self.same("all(a b)", book)
        self.too_many("all(a b c)", book)
        self.too_many("all(a c 4,0)", book)


class AskedAgain(unittest.TestCase):
    def test_told_the_same(self):
        book = read_book("a = 2(0,0 1,0 0,1)\nb = then(a a)\nc = all(%s)" % NINE)
        rules = [read_rule(text) for text in ("a", "b", "c", "q", "any(a at(1,1 a))", "by(0,1,1,0 b)")]

        def ask(rule):
            try:
                return plain_of(rule, book)
            except FloorError as error:
                return (type(error).__name__, vars(error))

        first = [ask(rule) for rule in rules]
        self.assertEqual([ask(rule) for rule in reversed(rules)], first[::-1])
        self.assertEqual([ask(rule) for rule in rules], first)


if __name__ == "__main__":
    unittest.main()
