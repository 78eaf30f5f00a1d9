"""Papers written and read."""

import random
import unittest

from healfloor.changes import plain_carried
from healfloor.errors import FloorError, NoText
from healfloor.fates import fate_of, holds
from healfloor.healing import healing_often
from healfloor.livingmore import living_greater, living_led
from healfloor.papertexts import read_paper, show_paper
from helpers import chance_cell, chance_plain, kinds_in, swapped

FORTY = 10 ** 40 - 1
HEALS = ("heals", (((0, 0), (0, 1)), ((1, 0),)), ((-1, 0), (1, 0)))
HEALS_TEXT = "heals\n-1,0 | 0,0 0,1\n1,0 | 1,0"
LIVES = ("lives", ((1, 2), (-3, 1)), ((0, 0), (4, 0), (0, 4)), (1, 1), (0, -1),
         (((0, 0),), ((5, -6), (0, 0)), ((-7, 8),)))
LIVES_TEXT = "lives 1/2,-3\n1,1 0,-1\n0,0 | 0,0\n4,0 | 5,-6 0,0\n0,4 | -7,8"


def chance_papers(seed, many):
    """Papers by chance that needn't hold."""
    chance = random.Random(seed)

    def cell():
        return chance_cell(chance, chance.choice((1, 30, FORTY)))

    def rows(count):
        return tuple([tuple([cell() for k in range(chance.randint(1, 5))]) for row in range(count)])

    told = []
    for turn in range(many):
        count = chance.randint(1, 9)
        told.append(("heals", rows(count), tuple([cell() for k in range(count)])))
        v = tuple([chance.choice(((0, 1), (-5, 1), (1, 2), (-7, 3), (FORTY, 1), (FORTY, FORTY - 1), (-1, FORTY)))
                   for k in range(2)])
        told.append(("lives", v, tuple([cell() for k in range(count + 2)]), cell(), cell(), rows(count + 2)))
    return told


class Written(unittest.TestCase):
    def both_ways(self, paper, text=None):
        told = show_paper(paper)
        self.assertIs(type(told), str)
        if text is not None:
            self.assertEqual(told, text)
        read = read_paper(told)
        self.assertEqual(read, paper)
        self.assertEqual(kinds_in(read), {tuple, int, str})

    def test_known(self):
        self.both_ways(HEALS, HEALS_TEXT)
        self.both_ways(LIVES, LIVES_TEXT)

    def test_one_row(self):
        self.both_ways(("heals", (((0, 0),),), ((0, 0),)), "heals\n0,0 | 0,0")

    def test_fractions(self):
        for v, text in ((((0, 1), (0, 1)), "0,0"), (((5, 1), (-5, 1)), "5,-5"), (((1, 2), (-1, 2)), "1/2,-1/2"),
                        (((-7, 3), (10, 7)), "-7/3,10/7"), (((0, 1), (-1, 100)), "0,-1/100")):
            self.both_ways(swapped(LIVES, 1, v), "lives " + text + LIVES_TEXT[12:])

    def test_cells_as_they_stand(self):
        # In any order, doubled ones, and whether or not anything holds.
        rows = (((3, 3), (0, 0), (3, 3)), ((-1, 2),), ((9, 9), (8, 8), (7, 7)))
        self.both_ways(swapped(LIVES, 5, rows))
        self.both_ways(("heals", rows, ((0, 0), (5, 5), (0, 0))))
        self.both_ways(swapped(LIVES, 2, ((0, 0), (0, 0), (0, 0))))

    def test_by_chance(self):
        for paper in chance_papers(35, 100):
            self.both_ways(paper)

    def test_fates(self):
        chance = random.Random(351)
        words = []
        for turn in range(120):
            far = chance.choice((1, 3, 1000))
            plain = chance_plain(chance, {chance_cell(chance, far) for k in range(1 + turn % 6)})
            paper = fate_of(plain)
            words.append(paper[0])
            self.both_ways(paper)
            self.assertTrue(holds(plain, read_paper(show_paper(paper))))
        self.assertGreater(min(words.count("heals"), words.count("lives")), 10)

    def test_carried_along(self):
        self.both_ways(healing_often(HEALS, 3))
        still = fate_of(plain_carried((((0, 0),), ((1, 0),)), (7, 7)))
        self.both_ways(living_led(living_greater(still, 1000), (1, 2, 3, 4)))

    def test_many_figures(self):
        most = (FORTY, -FORTY)
        self.both_ways(("heals", ((most,),), (most,)), "heals\n%d,%d | %d,%d" % (most * 2))
        self.both_ways(("lives", ((-FORTY, FORTY - 1), (1, FORTY)), (most,) * 3, most, most, ((most,),) * 3))

    def test_too_many_figures(self):
        # Written all the same, and not read.
        for great in (FORTY + 1, -FORTY - 1, 10 ** 300):
            for paper, row in ((("heals", (((0, great),),), ((0, 0),)), 1), (("heals", (((0, 0),),), ((great, 0),)), 1),
                               (swapped(LIVES, 1, ((great, 1), (0, 1))), 0), (swapped(LIVES, 3, (0, great)), 1),
                               (swapped(LIVES, 4, (great, 0)), 1), (swapped(LIVES, 2, ((0, 0), (1, great), (1, 1))), 3),
                               (swapped(LIVES, 5, (((0, 0),), ((0, 0),), ((0, great),))), 4)):
                text = show_paper(paper)
                self.assertIn(str(great), text)
                with self.assertRaises(NoText) as caught:
                    read_paper(text)
                self.assertEqual(caught.exception.row, row)
        # However great a function here made them.
        paper = swapped(LIVES, 1, ((-10 ** 5000, 3), (1, 10 ** 5000)))
        for turn in range(1600):
            paper = living_greater(paper, 1000)
        great = "1" + "0" * 4800
        self.assertEqual(show_paper(paper).split("\n")[:3],
                         ["lives -1" + "0" * 5000 + "/3,1/1" + "0" * 5000, f"{great},{great} 0,-{great}", "0,0 | 0,0"])
        text = show_paper(swapped(LIVES, 1, ((1, FORTY + 1), (0, 1))))
        self.assertTrue(text.startswith("lives 1/1" + "0" * 40 + ",0\n"))
        with self.assertRaises(NoText):
            read_paper(text)


class Refused(unittest.TestCase):
    def refused(self, text, row):
        with self.assertRaises(NoText) as caught:
            read_paper(text)
        self.assertIsInstance(caught.exception, FloorError)
        self.assertIs(type(caught.exception.row), int)
        self.assertEqual(caught.exception.row, row, text)

    def test_first_row(self):
        for text in ("", "\n", " ", "heal", "heals ", " heals", "Heals", "lives", "live 0,0", "lives ", "lives 0", ".",
                     "lives 0,0,0", "lives  0,0", "lives 0, 0", "lives 0,0 ", " lives 0,0", "lives 0 0", "lives 0,",
                     "lives ,0", "Lives 0,0", "heals 0,0", "heals\t", "0,0 | 0,0", "lives0,0", "lives 0,0 0,0"):
            self.refused(text, 0)
            self.refused(text + "\n0,0 0,0\n0,0 | 0,0\n1,0 | 0,0\n0,1 | 0,0", 0)

    def test_fractions(self):
        for word in ("2/4", "0/2", "0/1", "3/1", "-3/1", "1/0", "0/0", "1/-2", "-0", "-0/3", "01", "1/02", "01/2", "+1",
                     "1/2/3", "1/", "/2", "", "-", "1.5", "--1", "1/+2", " 1", "1 ", "a", "6/9", "-2/4", "1 /2", "1/1",
                     "10000/10000"):
            self.refused("lives " + word + ",0" + LIVES_TEXT[12:], 0)
            self.refused("lives 0," + word + LIVES_TEXT[12:], 0)

    def test_middle_and_square(self):
        for row in ("", "1,1", "1,1 0,0 0,0", "1,1  0,0", " 1,1 0,0", "1,1 0,0 ", "1,1,0,0", "1,1 | 0,0", "-0,1 0,0",
                    "1,1 0", "1,1 0,00", "01,1 0,0", "1/2,0 0,0", "1,1 0,0/2", "1,1 0,-0", "1,1;0,0"):
            rows = LIVES_TEXT.split("\n")
            self.refused("\n".join(swapped(tuple(rows), 1, row)), 1)

    def test_rows_that_lack(self):
        self.refused("heals", 1)
        rows = LIVES_TEXT.split("\n")
        for many in (1, 2, 3, 4):
            self.refused("\n".join(rows[:many]), many)
        self.assertEqual(read_paper("\n".join(rows)), LIVES)

    def test_a_line_feed_at_the_end(self):
        self.refused("heals\n", 1)
        self.refused(HEALS_TEXT + "\n", 3)
        self.refused(LIVES_TEXT + "\n", 5)
        self.refused("lives 0,0\n", 1)
        self.refused("lives 0,0\n0,0 0,0\n", 2)
        self.refused(LIVES_TEXT + "\n\n", 5)
        self.refused("\n" + HEALS_TEXT, 0)
        self.refused(HEALS_TEXT.replace("\n", "\n\n"), 1)

    def test_rows_with_strokes(self):
        for row in ("", "0,0", "0,0 |", "0,0 | ", "0,0|0,0", "0,0 |0,0", "0,0| 0,0", "0,0  | 0,0", "0,0 |  0,0",
                    "0,0 | 0,0 ", " 0,0 | 0,0", "0,0 | 0,0  0,0", "| 0,0", " | 0,0", "0,0 | 0,0 | 0,0", "0,0 || 0,0",
                    "0 | 0,0", "0,0,0 | 0,0", "0,0 | 0", "0,0 | 0,0,0", "-0,0 | 0,0", "0,0 | 0,-0", "00,0 | 0,0",
                    "0,0 | 0,01", "+1,0 | 0,0", "1/2,0 | 0,0", "0,0 | 1/2,0", "0,0 0,0 | 0,0", "x,0 | 0,0", "0,0 | .",
                    "heals", "0,0 / 0,0", "0,0 | 0,0\t"):
            for at in (1, 2):
                rows = tuple(HEALS_TEXT.split("\n"))
                self.refused("\n".join(swapped(rows, at, row)), at)
            for at in (2, 3, 4):
                rows = tuple(LIVES_TEXT.split("\n"))
                self.refused("\n".join(swapped(rows, at, row)), at)

    def test_the_first_of_several(self):
        self.refused("heals\n0,0 | 0,0\n0,0\n0,0", 2)
        self.refused("lives 0,0\n0,0\n0,0", 1)
        self.refused("lives 0,0\n0,0 0,0\n0,0 | 0,0\n0,0\n", 3)
        # A row that is none counts, where one lacks, too.
        self.refused("lives 0,0\n0,0 0,0\n0,0 | 0,0\n0,0", 3)

    def test_one_sort_in_the_others_place(self):
        self.refused(LIVES_TEXT.replace("lives 1/2,-3", "heals"), 1)
        self.refused(HEALS_TEXT.replace("heals", "lives 0,0"), 1)

    def test_signs_changed_by_chance(self):
        chance = random.Random(352)
        for turn in range(3000):
            text = chance.choice((HEALS_TEXT, LIVES_TEXT))
            at = chance.randrange(len(text))
            sign = chance.choice(" \n,|-/0123heals")
            other = text[:at] + chance.choice((sign, "", sign + text[at])) + text[at + 1:]
            try:
                paper = read_paper(other)
            except NoText as refusal:
                self.assertLessEqual(refusal.row, other.count("\n") + 1)
                continue
            # Each paper has one text.
            self.assertEqual(show_paper(paper), other)


class AskedAgain(unittest.TestCase):
    def test_told_the_same(self):
        papers = chance_papers(353, 10)

        def ask():
            return [(show_paper(paper), read_paper(show_paper(paper))) for paper in papers]

        self.assertEqual(ask(), ask())


if __name__ == "__main__":
    unittest.main()
