"""Islands written and read."""

import random
import re
import unittest

from healfloor.errors import FloorError, NoText
from healfloor.islandtexts import read_island, show_island
from helpers import kinds_in

FAR = 10 ** 18
GREAT = 10 ** 19 - 1
KNOWN = (
    (".", ()),
    ("0,0", ((0, 0),)),
    ("-1,7", ((-1, 7),)),
    ("0,-1 0,0", ((0, -1), (0, 0))),
    ("-10,5 -9,4 0,0 0,1 1,-100", ((-10, 5), (-9, 4), (0, 0), (0, 1), (1, -100))),
    ("-2,0 -1,0", ((-2, 0), (-1, 0))),
    ("9,0 10,0", ((9, 0), (10, 0))),
    ("1000000000000000000,-1000000000000000000", ((FAR, -FAR),)),
    ("-9999999999999999999,9999999999999999999", ((-GREAT, GREAT),)),
)
NONE = (
    "", " ", "  ", "-", ",", "..", ". .", " .", ". ", ".\n", "\n", "\n.", "0", "0,", ",0", "0,0,", ",0,0", "0,0,0",
    "0,,0", "0;0", "0.0", "0,0 0", "0 0,0", "0,0 1,0,0",
    "-0,0", "0,-0", "00,0", "0,00", "01,0", "0,01", "-01,0", "+1,0", "0,+1", "--1,0", "1-,0", "- 1,0", "0x1,0", "1e3,0",
    "1_0,0", "a,0", "a", "A,B", "(0,0)", "all(0,0)",
    "1" + "0" * 19 + ",0", "0,1" + "0" * 19, "-1" + "0" * 19 + ",0", "0" * 19 + "1,0",
    "0,0  1,0", " 0,0", "0,0 ", " 0,0 1,0", "0,0 1,0 ", "0, 0", "0 ,0", "0,0\t1,0", "0,0\n1,0", "0,0\n", "\n0,0",
    "0,0,1,0", "0,0, 1,0", "0,0 ,1,0", "0,0 1,0 , 2,0",
    "1,0 0,0", "0,1 0,0", "0,0 0,0", "0,0 1,0 1,0", "0,0 0,1 1,0 1,0 2,0", "0,0 1,0 0,1", "10,0 9,0", "-1,0 -2,0",
    ". 0,0", "0,0 .", "0,0 . 1,0", ".0,0", "0,0.", ".,.", "0,.",
    "\u0661,0", "\u00b2,0", "0,0\u00a01,0", "0,0%",
)
CELL = "(0|-?[1-9][0-9]{0,18}),(0|-?[1-9][0-9]{0,18})"


def is_island_text(text):
    """The same asked in another way."""
    if text == ".":
        return True
    if not re.fullmatch("%s( %s)*" % (CELL, CELL), text, re.ASCII):
        return False
    cells = [tuple([int(word) for word in cell.split(",")]) for cell in text.split(" ")]
    return cells == sorted(set(cells))


class Texts(unittest.TestCase):
    def refused(self, text):
        with self.assertRaises(NoText, msg=repr(text)) as taken:
            read_island(text)
        self.assertEqual(taken.exception.row, 0)
        self.assertIs(type(taken.exception.row), int)
        self.assertIsInstance(taken.exception, FloorError)

    def test_known(self):
        for text, island in KNOWN:
            self.assertEqual(show_island(island), text)
            self.assertEqual(read_island(text), island)
            self.assertLessEqual(kinds_in(read_island(text)), {tuple, int})
            self.assertTrue(is_island_text(text))

    def test_none(self):
        for text in NONE:
            self.refused(text)
            self.assertFalse(is_island_text(text), text)

    def test_numbers_of_one_to_nineteen_figures(self):
        for figures in range(1, 20):
            for number in (10 ** (figures - 1), 10 ** figures - 1):
                island = tuple(sorted([(number, -number), (-number, number), (0, number)]))
                self.assertEqual(read_island(show_island(island)), island)
                self.assertEqual(show_island(((number, -number),)), "%d,-%d" % (number, number))
        for number in (10 ** 19, -10 ** 19, 10 ** 25):
            self.refused("%d,0" % number)
            self.refused("0,%d" % number)

    def test_greater_numbers_are_written_too(self):
        self.assertEqual(show_island(((-10 ** 30, 10 ** 30),)), "-1%s,1%s" % ("0" * 30, "0" * 30))

    def test_many_cells(self):
        island = tuple([(x, y) for x in range(-10, 10) for y in range(-10, 10)])
        text = show_island(island)
        self.assertEqual(text.count(" "), 399)
        self.assertEqual(read_island(text), island)

    def test_by_chance_there_and_back(self):
        chance = random.Random(15)
        for turn in range(200):
            far = chance.choice((3, 100, FAR))
            cells = {(chance.randint(-far, far), chance.randint(-far, far)) for k in range(chance.randint(0, 15))}
            island = tuple(sorted(cells))
            self.assertEqual(read_island(show_island(island)), island)

    def test_texts_changed_by_chance(self):
        chance = random.Random(151)
        taken = 0
        for turn in range(5000):
            cells = sorted({(chance.randint(-12, 12), chance.randint(-12, 12)) for k in range(chance.randint(0, 4))})
            text = show_island(tuple(cells))
            at = chance.randrange(len(text) + 1)
            text = text[:at] + chance.choice((chance.choice(" ,-.0123a\n"), "")) + text[at + chance.randint(0, 1):]
            if is_island_text(text):
                taken += 1
                self.assertEqual(show_island(read_island(text)), text)
            else:
                self.refused(text)
        self.assertGreater(taken, 500)

    def test_nothing_kept_between(self):
        for text, island in KNOWN:
            self.refused("0,0 ")
            self.assertEqual(read_island(text), island)


if __name__ == "__main__":
    unittest.main()
