"""Point 15, word by word: how a row is parted, and which words are names and numbers."""

import unittest

from sieve.words import is_name, is_number, words_of

PRINTED = [chr(code) for code in range(32, 127)]
LETTERS = "abcdefghijklmnopqrstuvwxyz"


class Words(unittest.TestCase):
    def test_one_blank_and_many(self):
        self.assertEqual(words_of("a b c"), ["a", "b", "c"])
        self.assertEqual(words_of("   a   b  c    "), ["a", "b", "c"])

    def test_no_word(self):
        for row in ("", " ", "      ", "#", "  #", "# a b", "## a", " # # a"):
            self.assertEqual(words_of(row), [], row)

    def test_a_remark(self):
        self.assertEqual(words_of("a b # c d"), ["a", "b"])
        self.assertEqual(words_of("a b#c d"), ["a", "b"])
        self.assertEqual(words_of("a b# c # d"), ["a", "b"])
        self.assertEqual(words_of("a #"), ["a"])
        self.assertEqual(words_of("a#"), ["a"])

    def test_blanks_alone_part_words(self):
        for sign in PRINTED:
            if sign not in " #":
                self.assertEqual(words_of("a" + sign + "b"), ["a" + sign + "b"])


class Names(unittest.TestCase):
    def test_names(self):
        for word in list(LETTERS) + ["aa", "pass", "from", "abcdefghijkl", "z" * 12]:
            self.assertIs(is_name(word), True, word)

    def test_others(self):
        for word in ("", "a" * 13, "a" * 60000, "A", "Aa", "aA", "a1", "1a", "a-b", "a_b", "a.", " a", "a ", "a b"):
            self.assertIs(is_name(word), False, word)

    def test_signs(self):
        for sign in PRINTED:
            for word in (sign, "a" + sign, sign + "a", "a" + sign + "a"):
                self.assertIs(is_name(word), sign in LETTERS, word)
        for sign in ("\u00e9", "\u0131", "\u03b1", "\n", "\t"):
            self.assertIs(is_name(sign), False, repr(sign))


class Numbers(unittest.TestCase):
    def test_up_to_the_greatest(self):
        for greatest in (0, 3, 9, 10, 32, 255, 65535, 10 ** 12):
            self.assertIs(is_number("0", greatest), True)
            self.assertIs(is_number(str(greatest), greatest), True)
            self.assertIs(is_number(str(greatest + 1), greatest), False)
            self.assertIs(is_number(str(greatest * 10 + 10), greatest), False)

    def test_every_number(self):
        for number in range(1100):
            self.assertIs(is_number(str(number), 255), number <= 255)

    def test_noughts_ahead(self):
        for word in ("00", "01", "007", "00255", "000"):
            self.assertIs(is_number(word, 65535), False, word)

    def test_other_signs(self):
        for sign in PRINTED:
            if sign not in "0123456789":
                for word in (sign, sign + "1", "1" + sign, "1" + sign + "1"):
                    self.assertIs(is_number(word, 65535), False, word)
        for word in ("", "\u0661", "\u00b2", "1\n"):
            self.assertIs(is_number(word, 65535), False, repr(word))

    def test_a_very_long_row_of_figures(self):
        for figure in "019":
            self.assertIs(is_number(figure * 60000, 65535), False)


if __name__ == "__main__":
    unittest.main()
