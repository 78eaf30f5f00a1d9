"""Rules and books written and read."""

import random
import re
import unittest

from healfloor.errors import FloorError, NoName, NoText
from healfloor.reading import read_book, read_rule
from healfloor.rules import look_book
from healfloor.writing import show_book, show_rule
from helpers import chance_rule, kinds_in, plain_text

A, B, C = ("name", "a"), ("name", "b"), ("name", "c")
KNOWN = (
    ("0,0", ("cell", 0, 0)),
    ("-7,10", ("cell", -7, 10)),
    ("9999,-9999", ("cell", 9999, -9999)),
    ("a", A),
    ("abcdefgh", ("name", "abcdefgh")),
    ("least", ("name", "least")),
    ("cell", ("name", "cell")),
    ("name", ("name", "name")),
    ("all(a)", ("all", (A,))),
    ("all(a b c)", ("all", (A, B, C))),
    ("any(a 1,2)", ("any", (A, ("cell", 1, 2)))),
    ("1(a)", ("least", 1, (A,))),
    ("2(a b c)", ("least", 2, (A, B, C))),
    ("3(a b c)", ("least", 3, (A, B, C))),
    ("at(-1,2 a)", ("at", -1, 2, A)),
    ("at(1,2 3,4)", ("at", 1, 2, ("cell", 3, 4))),
    ("by(0,-1,1,0 a)", ("by", (0, -1, 1, 0), A)),
    ("by(9999,0,0,-9999 1,2)", ("by", (9999, 0, 0, -9999), ("cell", 1, 2))),
    ("then(a b)", ("then", A, B)),
    ("then(all(a b) at(0,1 c))", ("then", ("all", (A, B)), ("at", 0, 1, C))),
    ("all(all(all(a)))", ("all", (("all", (("all", (A,)),)),))),
    ("2(any(a b) then(c c) by(1,1,0,1 at(0,0 0,0)))",
     ("least", 2, (("any", (A, B)), ("then", C, C), ("by", (1, 1, 0, 1), ("at", 0, 0, ("cell", 0, 0)))))),
)
NONE = (
    "", " ", "()", "(", ")", "(a)", "a(", "a()", "a(b)", "all", "any", "at", "by", "then", "all()", "all(", "all)",
    "-0,0", "0,-0", "01,0", "0,00", "-01,0", "10000,0", "0,-10000", "+1,0", "1,", ",1", "1", "-", "1,2,3", "1, 2",
    "1,2 ", " 1,2", "1.0,2", "1,2,3,4", "--1,2", "1-,2",
    "abcdefghi", "aB", "A", "a1", "a_b", "a-b", "a\n", "\na", "a\nb", "a%", "a\t", "\u00e4", "\u0661,1", "a b", "a,b",
    "all(a  b)", "all( a)", "all(a )", "all (a)", " all(a)", "all(a) ", "all(a,b)", "all(ab)c", "all(a)b", "all(a)(b)",
    "all(a b", "all(a b))", "all((a))", "all(a(b))", "all(a)all(b)", "all(all(a)b)", "ALL(a)", "all[a]", "all{a}",
    "0(a)", "2(a)", "4(a b c)", "01(a)", "-1(a)", "+1(a)", "100(a)", "1(a", "1()", "1 (a)", "1,2(a)",
    "least(a)", "cell(1,2)", "name(a)", "foo(a)",
    "at(a)", "at(1,2)", "at(1,2 )", "at(1,2 a b)", "at(1,2  a)", "at(1,2,a)", "at(1 a)", "at(1,2,3 a)", "at( 1,2 a)",
    "at(10000,0 a)", "at(-0,0 a)", "at(a b)", "at(all(a) b)", "at()", "at(", "at(1,2", "at(1,2 ", "at(1,2(a)", "at 1,2 a",
    "by(1,0,0,1)", "by(1,0,0 a)", "by(1,0,0,1,1 a)", "by(1,0,0,1 a b)", "by(1,0,0,1  a)", "by(01,0,0,1 a)",
    "by(10000,0,0,1 a)", "by(0,0,0,0 a)", "by(1,2,2,4 a)", "by(-3,3,3,-3 a)", "by(0,0,5,7 a)", "by(1,0,0,-0 a)", "by(a b)",
    "by(", "by()", "by(1,0,0,1", "by(1,0,0,1 ",
    "then(a)", "then(a b c)", "then()", "then(a  b)", "then(a b", "then(a,b)", "then (a b)",
    "all(1,0,0,1 a)", "all(1,0,0,1)", "a = b", "all(=)", "all(a = b)",
)
NUMBER = "(?:0|-?[1-9][0-9]{0,3})"


def closed_or_not(found):
    """What a bracket without brackets in it becomes when it is one that a rule may have."""
    return "X" if int(found.group(1)) <= found.group(2).count(" ") + 1 else found.group(0)


def is_rule_text(text):
    """The same asked in another way: brackets are exchanged for one sign, innermost first, as long as there are some."""
    if re.search("[A-Z\n]", text):
        return False

    def table(found):
        a, b, c, d = [int(word) for word in found.group(0).split(",")]
        return "T" if a * d != b * c else "?"

    text = re.sub("(?<=by[(])%s,%s,%s,%s(?= )" % ((NUMBER,) * 4), table, text)
    text = re.sub("(?<![^( ])%s,%s(?![^) ])" % (NUMBER, NUMBER), "C", text)
    text = re.sub("(?<![^( ])(?!(?:all|any|at|by|then)(?![a-z]))[a-z]{1,8}(?![^) ])", "X", text)
    ahead = None
    while text != ahead:
        ahead = text
        text = re.sub("(?<![^( ])(?:(?:all|any)[(][XC](?: [XC])*[)]|at[(]C [XC][)]|by[(]T [XC][)]|then[(][XC] [XC][)])",
                      "X", text)
        text = re.sub("(?<![^( ])([1-9][0-9]?)[(]([XC](?: [XC])*)[)]", closed_or_not, text)
    return text in ("X", "C")


def refused(test, reads, text, row):
    with test.assertRaises(NoText, msg=repr(text)) as taken:
        reads(text)
    test.assertEqual(taken.exception.row, row, repr(text))
    test.assertIs(type(taken.exception.row), int)
    test.assertIsInstance(taken.exception, FloorError)


class Rules(unittest.TestCase):
    def test_known(self):
        for text, rule in KNOWN:
            self.assertEqual(show_rule(rule), text)
            self.assertEqual(read_rule(text), rule)
            self.assertLessEqual(kinds_in(read_rule(text)), {tuple, str, int})
            self.assertTrue(is_rule_text(text), text)

    def test_none(self):
        for text in NONE:
            refused(self, read_rule, text, 0)
            self.assertFalse(is_rule_text(text), text)

    def test_many_parts(self):
        for many in (9, 10, 99, 100, 300):
            parts = (A,) * many
            inside = " ".join("a" * many)
            self.assertEqual(read_rule("all(%s)" % inside), ("all", parts))
            k = min(many, 99)
            self.assertEqual(read_rule("%d(%s)" % (k, inside)), ("least", k, parts))
            self.assertEqual(show_rule(("least", k, parts)), "%d(%s)" % (k, inside))
            refused(self, read_rule, "%d(%s)" % (many + 1, inside), 0)
        refused(self, read_rule, "100(%s)" % " ".join("a" * 300), 0)
        refused(self, read_rule, "010(%s)" % " ".join("a" * 300), 0)

    def test_by_chance_there_and_back(self):
        chance = random.Random(8)
        for turn in range(500):
            rule = chance_rule(chance, 6, ("a", "far", "least"), 5)
            text = show_rule(rule)
            self.assertEqual(text, plain_text(rule))
            self.assertEqual(read_rule(text), rule)

    def test_texts_changed_by_chance(self):
        chance = random.Random(88)
        signs = " (),-=0123abcdenthlyz%A\n"
        taken = 0
        for turn in range(6000):
            text = plain_text(chance_rule(chance, 3, ("a", "all" + "b", "zz"), 2))
            for change in range(chance.randint(1, 2)):
                at = chance.randrange(len(text) + 1)
                text = text[:at] + chance.choice((chance.choice(signs), "")) + text[at + chance.randint(0, 1):]
            if is_rule_text(text):
                taken += 1
                self.assertEqual(show_rule(read_rule(text)), text)
            else:
                refused(self, read_rule, text, 0)
        self.assertGreater(taken, 300)

    def test_nothing_kept_between(self):
        text = "2(any(a b) then(c c) 0,1)"
        first = read_rule(text)
        for bad in NONE:
            refused(self, read_rule, bad, 0)
        self.assertEqual(read_rule(text), first)


class Books(unittest.TestCase):
    def test_known(self):
        for text, book in (("", ()), ("a = 0,0", (("a", ("cell", 0, 0)),)),
                           ("a = 0,0\nb = all(a 1,0)\nc = then(a b)",
                            (("a", ("cell", 0, 0)), ("b", ("all", (A, ("cell", 1, 0)))), ("c", ("then", A, B))))):
            self.assertEqual(show_book(book), text)
            self.assertEqual(read_book(text), book)
            self.assertLessEqual(kinds_in(read_book(text)), {tuple, str, int})

    def test_many_rows(self):
        names = [one + other for one in "abcdefghij" for other in "klmnopqrs"]
        book = tuple([(name, ("cell", at, -at)) for at, name in enumerate(names)])
        self.assertEqual(read_book(show_book(book)), book)
        refused(self, read_book, show_book(book + book[:1]), 90)

    def test_not_looked_at_whether_let_by(self):
        book = read_book("a = b\nb = a\nc = c")
        self.assertEqual(book, (("a", B), ("b", A), ("c", C)))
        with self.assertRaises(NoName) as taken:
            look_book(book)
        self.assertEqual(taken.exception.name, "b")

    def test_rows_that_are_none(self):
        good = "x = 0,0"
        for row in ("", " ", "b", "b =", "b = ", "= a", " = a", "b=a", "b =a", "b= a", "b  = a", "b =  a", " b = a",
                    "b = a ", "b == a", "b = a = c", "B = a", "all = a", "any = a", "at = a", "by = a", "then = a",
                    "abcdefghi = a", "b1 = a", "1,2 = a", "b c = a", "b = all", "b = -0,0", "b = all(a", "b = a)",
                    "b = 0(a)", "b = by(1,1,1,1 a)", "b : a", "b = a\r", "b = 12345,0"):
            refused(self, read_book, row + "\n" + good, 0)
            refused(self, read_book, good + "\n" + row, 1)
            refused(self, read_book, good + "\ny = 0,0\n" + row + "\nz = 0,0\n?", 2)

    def test_line_feeds(self):
        refused(self, read_book, "\n", 0)
        refused(self, read_book, "a = 0,0\n", 1)
        refused(self, read_book, "a = 0,0\n\nb = 0,0", 1)
        refused(self, read_book, "\na = 0,0", 0)
        refused(self, read_book, "a = all(0,0\n1,0)", 0)

    def test_name_of_a_row_ahead(self):
        refused(self, read_book, "a = 0,0\na = 0,0", 1)
        refused(self, read_book, "a = 0,0\nb = 0,0\nc = a\nb = 1,1", 3)
        refused(self, read_book, "a = 0,0\na = 0,0\n?", 1)
        refused(self, read_book, "a = 0,0\n?\na = 0,0", 1)
        refused(self, read_book, "a = 0,0\nb = ?\nb = 0,0", 1)

    def test_by_chance_there_and_back(self):
        chance = random.Random(888)
        for turn in range(100):
            names = chance.sample(["a", "b", "far", "least", "zz", "alls"], chance.randint(0, 6))
            book = tuple([(name, chance_rule(chance, 4, ("a", "q"))) for name in names])
            self.assertEqual(read_book(show_book(book)), book)


HEADS = (("all(", ("all",)), ("any(", ("any",)), ("1(", ("least", 1)), ("at(0,1 ", ("at", 0, 1)),
         ("by(1,0,0,1 ", ("by", (1, 0, 0, 1))), ("then(a ", ("then", A)))


class Deep(unittest.TestCase):
    def unwrapped(self, rule, front, deep):
        """The innermost rule, where so many of the same form stand around it."""
        for step in range(deep):
            self.assertEqual(rule[:len(front)], front)
            self.assertEqual(len(rule), len(front) + 1)
            rule = rule[-1]
            if front[0] in ("all", "any", "least"):
                self.assertEqual(len(rule), 1)
                rule = rule[0]
        return rule

    def test_each_form(self):
        for head, front in HEADS:
            for deep in (100, 400, 5000):
                text = head * deep + "b" + ")" * deep
                rule = read_rule(text)
                self.assertEqual(self.unwrapped(rule, front, deep), B)
                self.assertTrue(show_rule(rule) == text, head)
                known = (("a", ("cell", 0, 0)),)
                self.assertIsNone(look_book(known + (("b", ("cell", 0, 0)), ("c", rule))))
                with self.assertRaises(NoName) as taken:
                    look_book(known + (("c", rule),))
                self.assertEqual(taken.exception.name, "b")

    def test_bad_ones(self):
        for head, front in HEADS:
            for deep in (100, 400, 5000):
                for text in (head * deep, head * deep + "b" + ")" * (deep - 1), head * deep + "b" + ")" * (deep + 1),
                             head * deep + ")" * deep, head * deep + "b " + ")" * deep,
                             head * deep + "B" + ")" * deep, "(" * deep, head * deep + "b" + ")" * deep + " b"):
                    refused(self, read_rule, text, 0)
                    refused(self, read_book, "a = b\nc = " + text, 1)

    def test_deep_on_the_left(self):
        deep = 300
        text = "then(" * deep + "b" + " c)" * deep
        rule = read_rule(text)
        self.assertEqual(show_rule(rule), text)
        with self.assertRaises(NoName) as taken:
            look_book((("a", rule),))
        self.assertEqual(taken.exception.name, "b")

    def test_books(self):
        deep = 600
        text = "a = 0,0\nb = " + "1(" * deep + "a" + ")" * deep + "\nc = " + "1(" * deep + "d" + ")" * deep
        book = read_book(text)
        self.assertEqual([pair[0] for pair in book], ["a", "b", "c"])
        self.assertTrue(show_book(book) == text)
        self.assertIsNone(look_book(book[:2]))
        with self.assertRaises(NoName) as taken:
            look_book(book)
        self.assertEqual(taken.exception.name, "d")


if __name__ == "__main__":
    unittest.main()
