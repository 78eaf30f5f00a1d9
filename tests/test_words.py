"""Numbers and names as texts."""

import unittest

from healfloor.words import is_name, is_number, read_numbers, show_number, show_numbers


class Names(unittest.TestCase):
    def test_names(self):
        for text in ("a", "z", "abcdefgh", "alls", "anyone", "cell", "least", "name", "than"):
            self.assertIs(is_name(text), True, text)

    def test_none(self):
        for text in ("", "abcdefghi", "all", "any", "at", "by", "then", "A", "aB", "a1", "a b", "a\n", "-",
                     "{", "`", "\u00e4"):
            self.assertIs(is_name(text), False, text)


class Numbers(unittest.TestCase):
    def test_numbers(self):
        for text in ("0", "7", "-7", "10", "9999", "-9999", "1000"):
            self.assertIs(is_number(text, 4), True, text)

    def test_none(self):
        for text in ("", "-", "-0", "00", "01", "-01", "10000", "-10000", "+1", "--1", "1-", "a", " 1", "1 ", "1\n",
                     "1_0", "\u0661", "\u00b2"):
            self.assertIs(is_number(text, 4), False, text)

    def test_so_many_figures(self):
        self.assertTrue(is_number("9" * 19, 19))
        self.assertFalse(is_number("9" * 20, 19))
        self.assertTrue(is_number("-" + "9" * 19, 19))

    def test_rows_of_numbers(self):
        self.assertEqual(read_numbers("1,-2", 2, 4), (1, -2))
        self.assertEqual(read_numbers("0,0,-10,9", 4, 2), (0, 0, -10, 9))
        for text in ("", "1", "1,", ",1", "1,2,3", "1, 2", "1,-0", "1,,2", "1;2", "12345,1"):
            self.assertIs(read_numbers(text, 2, 4), None, text)

    def test_shown(self):
        self.assertEqual(show_numbers((1, -2)), "1,-2")
        self.assertEqual(show_numbers((0, 10 ** 40)), "0," + "1" + "0" * 40)

    def test_one_shown(self):
        for figures in (1, 2, 19, 40, 63, 64, 65, 127, 128, 129, 900):
            for number in (0, 1, 10 ** figures - 1, 10 ** figures, 10 ** figures + 1, 7 * 10 ** figures // 9):
                self.assertEqual(show_number(number), str(number))
                self.assertEqual(show_number(-number), str(-number))

    def test_more_figures_than_str_takes(self):
        self.assertEqual(show_number(10 ** 9000), "1" + "0" * 9000)
        self.assertEqual(show_number(1 - 10 ** 9000), "-" + "9" * 9000)


if __name__ == "__main__":
    unittest.main()
