"""The desk: every deed, right and with each fault."""

import random
import unittest

from healfloor.beats import beats
from healfloor.desk import Desk
from healfloor.errors import FloorError, NoDeed, NoName, NoText, TooMany
from healfloor.fates import fate_of
from healfloor.healing import sure_beats
from healfloor.islandtexts import show_island
from healfloor.papertexts import read_paper, show_paper
from healfloor.plain import plain_of
from healfloor.reading import read_rule
from helpers import chance_rule, plain_text

FAR = 10 ** 18
TOOM = "2(0,0 1,0 0,1)"
EIGHT = "all(0,0 1,0 2,0 3,0 4,0 5,0 6,0 7,0)"
SEVEN = "any(0,0 1,0 2,0 3,0 4,0 5,0 6,0)"
SIX = "3(0,0 1,0 2,0 3,0 4,0 5,0)"
NO_NAMES = ("A", "a1", "abcdefghi", "all", "any", "at", "by", "then", "a-b", "1", "0,0", ".", "a.", "\u00e4")


def desk_of(*rows):
    desk = Desk()
    for row in rows:
        desk.say(row)
    return desk


def usual():
    """A desk with rules that heal and live, and a Floor of each, some of it broken."""
    return desk_of("rule toom " + TOOM, "rule still 0,0", "rule pair all(0,0 1,0)", "rule seven " + SEVEN,
                   "rule eight " + EIGHT, "floor one toom", "floor two still", "floor many seven",
                   "break one 0,0 0,1 1,0 1,1", "break two 5,5", "break many 0,0")


def seen(desk):
    """All that a desk tells of what usual keeps, and how far back its Floors go; asked, it is worn out."""
    told = []
    for name in ("one", "two", "many"):
        told.append(desk.say("show " + name))
        while desk.say("back " + name) == "back":
            told.append(desk.say("show " + name))
    for name in ("toom", "still", "pair", "seven", "eight"):
        desk.say("floor probe " + name)
        desk.say("break probe 0,0 0,1 1,0 1,1 2,0 2,1")
        told.append(desk.say("beat probe 1") + " " + desk.say("show probe"))
    return told


class Cases(unittest.TestCase):
    def refused(self, desk, row, error, kept=None):
        with self.assertRaises(FloorError) as caught:
            desk.say(row)
        self.assertIs(type(caught.exception), error, row)
        field = {NoName: "name", NoText: "row", TooMany: "many"}.get(error)
        if field is not None:
            self.assertEqual(getattr(caught.exception, field), kept, row)

    def answers(self, desk, row, text):
        told = desk.say(row)
        self.assertIs(type(told), str)
        self.assertEqual(told, text, row)


class Rules(Cases):
    def test_kept(self):
        desk = Desk()
        self.answers(desk, "rule a 0,0", "kept 1")
        self.answers(desk, "rule toom " + TOOM, "kept 3")
        self.answers(desk, "rule either any(0,0 1,0)", "kept 2")
        self.answers(desk, "rule abcdefgh all(0,0 1,0 any(0,0 5,5))", "kept 1")
        self.answers(desk, "rule many 2(0,0 1,0 2,0 3,0 4,0)", "kept 10")

    def test_names_of_rules_kept(self):
        desk = desk_of("rule pair all(0,0 1,0)", "rule up 0,1")
        self.answers(desk, "rule both any(pair up)", "kept 2")
        desk.say("rule twice then(pair at(5,5 pair))")
        desk.say("floor f twice")
        desk.say("break f 5,5 6,5 7,5")
        self.answers(desk, "beat f 1", "1")
        self.answers(desk, "show f", "0,0")
        desk.say("rule turned by(0,1,1,0 pair)")
        desk.say("floor g turned")
        desk.say("break g 0,0 0,1")
        self.answers(desk, "beat g 1", "1")

    def test_kept_anew(self):
        desk = desk_of("rule a 0,0", "rule b at(1,0 a)", "floor f a", "break f 0,0 3,3")
        self.answers(desk, "rule a all(0,0 1,0)", "kept 1")
        # The Floor and the rule made of it stay what they were.
        self.answers(desk, "beat f 1", "2")
        desk.say("floor g b")
        desk.say("break g 0,0")
        self.answers(desk, "beat g 1", "1")
        self.answers(desk, "show g", "-1,0")
        self.answers(desk, "fate b", "lives")
        self.answers(desk, "fate a", "heals")
        self.answers(desk, "sure f", "never sure")
        desk.say("floor f a")
        self.answers(desk, "show f", ".")

    def test_made_of_itself(self):
        desk = desk_of("rule a all(0,0 1,0)")
        self.answers(desk, "rule a any(a at(0,1 a))", "kept 2")
        self.answers(desk, "rule a then(a 0,0)", "kept 2")

    def test_as_plain_of_tells(self):
        chance = random.Random(36)
        desk = Desk()
        kept = 0
        for turn in range(200):
            rule = chance_rule(chance, 3)
            text = plain_text(rule)
            try:
                plain = plain_of(rule)
            except TooMany:
                self.refused(desk, "rule a " + text, TooMany, 8)
                continue
            kept = kept + 1
            self.answers(desk, "rule a " + text, "kept %d" % len(plain))
            island = ((0, 0), (0, 1), (1, 1), (2, 0))
            desk.say("floor f a")
            desk.say("break f " + show_island(island))
            self.answers(desk, "beat f 2", str(len(beats(plain, island, 2))))
            self.answers(desk, "show f", show_island(beats(plain, island, 2)))
        self.assertGreater(kept, 100)

    def test_deep_ones(self):
        desk = Desk()
        self.answers(desk, "rule a " + "all(" * 390 + "0,0" + ")" * 390, "kept 1")
        self.answers(desk, "rule b " + "at(1,0 " * 240 + "a" + ")" * 240, "kept 1")
        desk.say("floor f b")
        desk.say("break f 240,0")
        desk.say("beat f 1")
        self.answers(desk, "show f", "0,0")


class Floors(Cases):
    def test_kept(self):
        desk = desk_of("rule a 0,0")
        self.answers(desk, "floor f a", "kept")
        self.answers(desk, "show f", ".")
        self.answers(desk, "break f 0,0", "1")
        self.answers(desk, "floor g a", "kept")
        self.answers(desk, "show g", ".")
        self.answers(desk, "show f", "0,0")
        # A new one in its place, all whole, and no deed to take back.
        self.answers(desk, "floor f a", "kept")
        self.answers(desk, "show f", ".")
        self.answers(desk, "back f", "nothing")

    def test_names_of_rules_and_floors_apart(self):
        desk = desk_of("rule a 0,0", "floor a a", "rule b all(0,0 1,0)", "floor b a", "break a 1,1", "break b 2,2")
        self.answers(desk, "show a", "1,1")
        self.answers(desk, "rule a all(0,0 1,0)", "kept 1")
        self.answers(desk, "show a", "1,1")
        self.answers(desk, "floor a b", "kept")
        self.answers(desk, "fate a", "heals")
        self.answers(desk, "show b", "2,2")
        self.answers(desk, "beat b 5", "1")
        self.refused(desk_of("rule a 0,0"), "show a", NoName, "a")
        desk = desk_of("rule a 0,0", "floor f a")
        self.refused(desk, "fate f", NoName, "f")
        self.refused(desk, "rule b all(f a)", NoName, "f")
        self.refused(desk, "sure a", NoName, "a")

    def test_broken_and_mended(self):
        desk = desk_of("rule a 0,0", "floor f a")
        self.answers(desk, "break f 0,0 1,1", "2")
        self.answers(desk, "break f 1,1 2,2", "3")
        self.answers(desk, "break f .", "3")
        self.answers(desk, "mend f 1,1 7,7", "2")
        self.answers(desk, "mend f .", "2")
        self.answers(desk, "show f", "0,0 2,2")
        self.answers(desk, "mend f 0,0 2,2", "0")
        self.answers(desk, "show f", ".")
        far = "%d,%d" % (-FAR, FAR)
        self.answers(desk, "break f " + far, "1")
        self.answers(desk, "show f", far)

    def test_beats(self):
        desk = desk_of("rule pair all(0,0 1,0)", "floor f pair", "break f 0,0 1,0 2,0 3,0 4,0")
        self.answers(desk, "beat f 1", "4")
        self.answers(desk, "beat f 2", "2")
        self.answers(desk, "show f", "0,0 1,0")
        self.answers(desk, "beat f 60", "0")
        self.answers(desk, "beat f 10", "0")

    def test_back(self):
        desk = desk_of("rule pair all(0,0 1,0)", "floor f pair")
        self.answers(desk, "back f", "nothing")
        desk.say("break f 0,0 1,0")
        desk.say("beat f 1")
        desk.say("mend f .")
        self.answers(desk, "back f", "back")
        self.answers(desk, "show f", "0,0")
        self.answers(desk, "back f", "back")
        self.answers(desk, "show f", "0,0 1,0")
        self.answers(desk, "back f", "back")
        self.answers(desk, "show f", ".")
        self.answers(desk, "back f", "nothing")
        self.answers(desk, "back f", "nothing")

    def test_twenty_of_each(self):
        desk = Desk()
        names = ["n" + chr(ord("a") + k) for k in range(20)]
        for at, name in enumerate(names):
            self.answers(desk, "rule %s %d,0" % (name, at), "kept 1")
            self.answers(desk, "floor %s %s" % (name, name), "kept")
            desk.say("break %s 0,0" % name)
        for at, name in enumerate(names):
            self.answers(desk, "beat %s 2" % name, "1")
            self.answers(desk, "show " + name, "%d,0" % (-2 * at))


class Fates(Cases):
    def test_fates(self):
        desk = usual()
        self.answers(desk, "fate toom", "heals")
        self.answers(desk, "fate pair", "heals")
        self.answers(desk, "fate still", "lives")

    def test_papers(self):
        desk = usual()
        for name, text in (("toom", TOOM), ("pair", "all(0,0 1,0)"), ("still", "0,0")):
            paper = fate_of(plain_of(read_rule(text)))
            self.answers(desk, "paper " + name, show_paper(paper).replace("\n", " / "))
            self.assertEqual(read_paper(desk.say("paper " + name).replace(" / ", "\n")), paper)
        self.assertTrue(desk.say("paper toom").startswith("heals / "))
        self.assertTrue(desk.say("paper still").startswith("lives 0,0 / "))

    def test_sure(self):
        desk = usual()
        paper = fate_of(plain_of(read_rule(TOOM)))
        self.answers(desk, "sure one", str(sure_beats(paper, ((0, 0), (0, 1), (1, 0), (1, 1)))))
        many = int(desk.say("sure one"))
        self.answers(desk, "beat one %d" % many, "0")
        self.answers(desk, "sure one", "0")
        self.answers(desk, "sure two", "never sure")
        desk.say("mend two 5,5")
        self.answers(desk, "sure two", "never sure")

    def test_sure_of_a_whole_floor(self):
        desk = desk_of("rule pair all(0,0 1,0)", "floor f pair")
        self.answers(desk, "sure f", "0")
        desk.say("break f 0,0")
        self.answers(desk, "sure f", "1")
        desk.say("break f %d,0" % FAR)
        self.answers(desk, "sure f", str(FAR + 1))

    def test_sure_by_the_floors_own_rule(self):
        desk = desk_of("rule a all(0,0 1,0)", "floor f a", "break f 0,0", "rule a 0,0")
        self.answers(desk, "sure f", "1")

    def test_six_and_more_cells(self):
        desk = desk_of("rule six " + SIX, "rule seven " + SEVEN, "rule eight " + EIGHT, "floor a six", "floor b seven",
                       "floor c eight")
        self.answers(desk, "fate six", "lives")
        self.answers(desk, "sure a", "never sure")
        desk.say("paper six")
        for name, floor in (("seven", "b"), ("eight", "c")):
            self.refused(desk, "fate " + name, NoDeed)
            self.refused(desk, "paper " + name, NoDeed)
            self.refused(desk, "sure " + floor, NoDeed)
            desk.say("break %s 0,0 1,0" % floor)
            desk.say("beat %s 2" % floor)
            self.refused(desk, "sure " + floor, NoDeed)

    def test_cells_are_those_of_the_plain_rule(self):
        # Needless cells are gone: seven stand in the text, one in the rule.
        desk = desk_of("rule a any(0,0 all(0,0 1,0 2,0 3,0 4,0 5,0 6,0))", "floor f a")
        self.answers(desk, "fate a", "lives")
        self.answers(desk, "sure f", "never sure")


class NoDeeds(Cases):
    def none(self, row):
        self.refused(usual(), row, NoDeed)

    def test_other_words(self):
        for row in ("", " ", "hello", "rules a 0,0", "Rule a 0,0", "RULE a 0,0", "show", "fates toom", "shown one",
                    "step one 1", "toom", "0,0", "broke one 0,0", "name one", "floor", "rule", "all(0,0)"):
            self.none(row)

    def test_counts_of_words(self):
        for row in ("rule a", "floor f", "floor f toom toom", "floor f toom 0,0", "break one", "mend one", "beat one",
                    "beat one 1 1", "back", "back one one", "show one 1", "show one one", "fate", "fate toom toom",
                    "paper", "paper toom one", "sure", "sure one one", "break", "mend", "beat", "back one 1",
                    "show one .", "fate toom 0,0"):
            self.none(row)

    def test_words_without_signs(self):
        for row in ("show  one", "show one ", " show one", "rule a  0,0", "rule a 0,0 ", "rule a all(0,0  1,0)",
                    "rule a all(0,0 1,0) ", "rule  a 0,0", "break one  0,0", "break one 0,0  1,1", "break one 0,0 ",
                    "mend one ", "mend one 0,0  1,1", "beat one  1", "beat one 1 ", "fate toom ", "floor f  toom",
                    "rule a ", "break one ", "  ", "rule a at(0,0  1,0)", " rule a 0,0"):
            self.none(row)

    def test_line_feeds(self):
        for row in ("show one\n", "\nshow one", "show\none", "rule a 0,0\n", "rule a all(0,0\n1,0)", "break one 0,0\n",
                    "break one 0,0\n1,1", "beat one 1\n", "fate toom\n", "\n", "rule a\n0,0", "break one .\n"):
            self.none(row)

    def test_names_that_are_none(self):
        for name in NO_NAMES:
            for row in ("rule NAME 0,0", "floor NAME toom", "floor f NAME", "break NAME 0,0", "mend NAME .",
                        "beat NAME 1", "back NAME", "show NAME", "fate NAME", "paper NAME", "sure NAME"):
                self.none(row.replace("NAME", name))

    def test_numbers_of_beats(self):
        for word in ("0", "00", "01", "-1", "+1", "61", "99", "100", "060", "1.", "1,0", "one", "a", "1a", "-0", "6 0",
                     "1000", "\u0661"):
            self.none("beat one " + word)
        for word in ("1", "9", "10", "59", "60"):
            usual().say("beat one " + word)

    def test_great_floors(self):
        cells = ["%d,0" % x for x in range(100, 501)]
        desk = desk_of("rule pair all(0,0 1,0)", "floor f pair", "break f " + " ".join(cells))
        self.refused(desk, "beat f 1", NoDeed)
        self.refused(desk, "beat f 60", NoDeed)
        self.answers(desk, "sure f", "401")
        self.answers(desk, "mend f " + cells[-1], "400")
        self.answers(desk, "beat f 1", "399")
        self.answers(desk, "back f", "back")
        self.answers(desk, "break f 0,5", "401")
        self.refused(desk, "beat f 1", NoDeed)
        self.answers(desk, "back f", "back")
        self.answers(desk, "beat f 60", "340")


class Texts(Cases):
    def test_rules(self):
        for text in ("0", "0,0,0", "all()", "all(0,0", "0,0)", "all(0,0 1,0))", "2(0,0)", "0(0,0)", "at(0,0)",
                     "by(1,1,1,1 0,0)", "then(0,0)", "00,0", "-0,0", "10000,0", "0,0 1,0", "A", "all", "any",
                     "all (0,0)", "all(0,0 )", "abcdefghi", "x = 0,0", "."):
            if "" not in text.split(" "):
                self.refused(usual(), "rule a " + text, NoText, 0)

    def test_cells(self):
        for text in ("0", "0,0,0", "1,1 0,0", "0,0 0,0", "-0,0", "00,0", "0,0 .", ". .", "..", "1/2,0", "a", "0,0,",
                     "1" * 20 + ",0", "0;0", "all(0,0)"):
            self.refused(usual(), "break one " + text, NoText, 0)
            self.refused(usual(), "mend one " + text, NoText, 0)

    def test_four_figures(self):
        self.answers(Desk(), "rule a 9999,-9999", "kept 1")
        self.refused(Desk(), "rule a 10000,0", NoText, 0)
        desk = desk_of("rule a 0,0", "floor f a")
        self.answers(desk, "break f " + "9" * 19 + ",0", "1")


class Names(Cases):
    def test_unknown(self):
        for row, name in (("floor f none", "none"), ("break none 0,0", "none"), ("mend none .", "none"),
                          ("beat none 1", "none"), ("back none", "none"), ("show none", "none"),
                          ("fate none", "none"), ("paper none", "none"), ("sure none", "none"),
                          ("rule a none", "none"), ("rule a all(toom x y)", "x"), ("rule a any(y at(0,0 x))", "y"),
                          ("rule a then(by(1,0,0,1 x) y)", "x"), ("rule a 2(toom all(y) x)", "y"),
                          ("floor one one", "one"), ("rule a a", "a"), ("floor none none", "none")):
            self.refused(usual(), row, NoName, name)

    def test_empty_desks(self):
        for row in ("floor f a", "break a 0,0", "mend a 0,0", "beat a 1", "back a", "show a", "fate a", "paper a",
                    "sure a", "rule b a"):
            self.refused(Desk(), row, NoName, "a")


class TooManyCells(Cases):
    def test_rules(self):
        desk = usual()
        self.refused(desk, "rule a any(eight 8,0)", TooMany, 8)
        self.refused(desk, "rule a all(0,0 1,0 2,0 3,0 4,0 5,0 6,0 7,0 8,0)", TooMany, 8)
        self.refused(desk, "rule a then(eight pair)", TooMany, 8)
        self.refused(desk, "rule eight any(seven at(2,0 seven))", TooMany, 8)
        self.answers(desk, "rule eight any(seven at(1,0 seven))", "kept 8")
        self.answers(desk, "rule a all(eight 7,0)", "kept 1")


class TwoFaults(Cases):
    """Each refusal ahead of those that come later in the order told."""

    def test_no_deed_first(self):
        for row in ("rule A 0", "rule a all(0,0  none", "rule a 0,0\nx", "break A 0", "break none 0 ", "floor A none",
                    "beat none 0", "beat none 61", "fate none none", "floor none A", "rule all none",
                    "rule A any(eight 8,0)", "rule a any(eight  8,0)", "break none 1,1  0,0", "show none\n",
                    "mend none 0\n", "beat none", "sure none 1"):
            self.refused(usual(), row, NoDeed)

    def test_text_next(self):
        for row in ("rule a all(none 0", "rule a all(x y 0)", "rule a any(eight 8,0 00,0)", "break none 0",
                    "mend none 1,1 0,0", "rule a all(none any(eight 8,0)", "break none 0,0 0,0"):
            self.refused(usual(), row, NoText, 0)

    def test_name_next(self):
        desk = usual()
        self.refused(desk, "rule a any(any(eight 8,0) none)", NoName, "none")
        self.refused(desk, "rule a all(then(eight eight) x y)", NoName, "x")
        self.refused(desk, "beat none 60", NoName, "none")

    def test_order_of_names(self):
        self.refused(usual(), "rule a then(x y)", NoName, "x")
        self.refused(usual(), "rule a then(toom all(y x))", NoName, "y")


class NothingChanged(Cases):
    ROWS = ("", "rule toom", "rule toom 0", "rule toom none", "rule toom any(eight 8,0)", "rule A 0,0",
            "rule toom all(0,0  1,0)", "floor one none", "floor one", "floor one A", "break one 0", "break one 9,9 8,8",
            "break one 9,9  8,8", "mend one 0", "mend one", "mend one 0,0 0,0", "beat one 0", "beat one 61",
            "beat one 1 1", "back one one", "show one one", "fate seven", "paper eight", "sure many", "sure none",
            "beat none 1", "break none 9,9", "mend none 0,0", "rule pair then(eight eight)", "floor two toom\n",
            "rule still none", "back none")

    def test_one_by_one(self):
        due = seen(usual())
        for row in self.ROWS:
            desk = usual()
            with self.assertRaises(FloorError):
                desk.say(row)
            self.assertEqual(seen(desk), due, row)

    def test_one_behind_another(self):
        desk = usual()
        for row in self.ROWS * 2:
            with self.assertRaises(FloorError):
                desk.say(row)
        self.assertEqual(seen(desk), seen(usual()))

    def test_a_floor_too_great(self):
        cells = " ".join(["%d,0" % x for x in range(100, 501)])
        desk = desk_of("rule a 0,0", "floor f a", "break f " + cells)
        self.refused(desk, "beat f 1", NoDeed)
        self.answers(desk, "show f", cells)
        self.answers(desk, "back f", "back")
        self.answers(desk, "back f", "nothing")

    def test_only_telling_changes_nothing(self):
        desk = usual()
        for row in ("show one", "fate toom", "paper toom", "sure one", "sure two", "paper still", "show two"):
            self.assertEqual(desk.say(row), desk.say(row))
        self.assertEqual(seen(desk), seen(usual()))

    def test_desks_side_by_side(self):
        one, other = usual(), Desk()
        self.refused(other, "show one", NoName, "one")
        other.say("rule toom 0,0")
        other.say("floor one toom")
        self.answers(other, "show one", ".")
        self.answers(one, "show one", "0,0 0,1 1,0 1,1")
        self.answers(one, "fate toom", "heals")
        self.answers(other, "fate toom", "lives")


if __name__ == "__main__":
    unittest.main()
