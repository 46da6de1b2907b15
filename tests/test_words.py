"""Promise 4: what a name is and what a number is."""

import string
import unittest

from samestride.errors import NoTerm
from samestride.words import is_name, read_number

KEPT = ("fn", "rec", "call", "if")
SIGNS = [chr(k) for k in range(32, 127)] + ["\n", "\r", "\t"]


def with_sign(text, at, sign):
    return text[:at] + sign + text[at + 1:]


class Names(unittest.TestCase):
    def test_answer_is_a_truth(self):
        for text in ("x", "abcdefgh"):
            self.assertIs(is_name(text), True)
        for text in ("", "fn", "abcdefghi", "X", "x1", "+"):
            self.assertIs(is_name(text), False)

    def test_kept_words(self):
        for word in KEPT:
            self.assertFalse(is_name(word), word)

    def test_kept_words_without_a_letter(self):
        for text in ("n", "ec", "all", "f", "re", "cal", "i", "cll"):
            self.assertTrue(is_name(text), text)

    def test_kept_words_with_a_letter_more(self):
        for word in KEPT:
            for letter in string.ascii_lowercase:
                self.assertTrue(is_name(word + letter), word + letter)
                self.assertTrue(is_name(letter + word), letter + word)

    def test_kept_words_with_another_sign(self):
        for word in KEPT:
            for text in (word.upper(), word.capitalize(), " " + word, word + " ", word + "\n"):
                self.assertFalse(is_name(text), text)

    def test_kept_words_together(self):
        for text in ("fnfn", "fnif", "ifrec", "callrec", "callcall"):
            self.assertTrue(is_name(text), text)

    def test_other_words_are_names(self):
        for text in ("num", "name", "else", "rest", "lambda", "clo", "go", "back", "true", "none"):
            self.assertTrue(is_name(text), text)

    def test_each_letter(self):
        for letter in string.ascii_lowercase:
            for length in range(1, 9):
                self.assertTrue(is_name(letter * length), letter * length)

    def test_lengths(self):
        for length in (0, 9, 10, 11, 16, 100, 20000):
            self.assertFalse(is_name("a" * length), length)
        self.assertTrue(is_name("stuvwxyz"))
        self.assertFalse(is_name("rstuvwxyz"))

    def test_other_signs_at_any_place(self):
        for sign in SIGNS:
            if sign in string.ascii_lowercase:
                continue
            for length in range(1, 9):
                for at in range(length):
                    text = with_sign("a" * length, at, sign)
                    self.assertFalse(is_name(text), text)

    def test_other_signs_ahead_and_behind(self):
        for sign in SIGNS:
            if sign not in string.ascii_lowercase:
                self.assertFalse(is_name(sign + "abc"), sign)
                self.assertFalse(is_name("abc" + sign), sign)
                self.assertFalse(is_name("abcdefgh" + sign), sign)

    def test_letters_in_their_order(self):
        for text in ("ab", "abc", "xyz", "ba", "az", "za"):
            self.assertTrue(is_name(text), text)


class Numbers(unittest.TestCase):
    def refused(self, text):
        with self.assertRaises(NoTerm, msg=repr(text)):
            read_number(text)

    def read(self, text, number):
        found = read_number(text)
        self.assertIs(type(found), int)
        self.assertEqual(found, number)

    def test_nought_and_one(self):
        self.read("0", 0)
        self.read("1", 1)

    def test_small_ones(self):
        for number in range(0, 3000):
            self.read(str(number), number)

    def test_one_to_six_figures(self):
        for length in range(1, 7):
            self.read("9" * length, 10 ** length - 1)
            self.read("1" + "0" * (length - 1), 10 ** (length - 1))
        for number in range(0, 1000000, 997):
            self.read(str(number), number)
        self.read("123456", 123456)
        self.read("987654", 987654)

    def test_seven_figures_and_more(self):
        for text in ("1000000", "1234567", "9999999", "0000000", "0000001", "10000000"):
            self.refused(text)
        for length in (7, 8, 100, 5000, 20000):
            self.refused("1" * length)
            self.refused("0" * length)

    def test_nought_ahead(self):
        for length in range(2, 7):
            self.refused("0" * length)
            self.refused("0" * (length - 1) + "7")
            self.refused("0" + "7" * (length - 1))
        for text in ("00", "01", "010", "001", "012345"):
            self.refused(text)

    def test_nought_within_and_behind(self):
        for text in ("10", "100", "101", "1001", "100000", "900009"):
            self.read(text, int(text))

    def test_sign_ahead(self):
        for figures in ("0", "1", "12", "99999", "999999"):
            for sign in ("-", "+", " ", "\t", "\n", "_", "."):
                self.refused(sign + figures)

    def test_no_figure_at_all(self):
        for text in ("", " ", "-", "+", "\n", "\t", "_", "x", "fn", "num", "abcdef"):
            self.refused(text)

    def test_other_signs_at_any_place(self):
        for sign in SIGNS:
            if sign in string.digits:
                continue
            for length in range(1, 7):
                for at in range(length):
                    self.refused(with_sign("1" * length, at, sign))

    def test_other_signs_ahead_and_behind(self):
        for sign in SIGNS:
            if sign not in string.digits:
                for figures in ("0", "5", "123456"):
                    self.refused(sign + figures)
                    self.refused(figures + sign)

    def test_forms_of_other_languages(self):
        for text in ("1_0", "1_000", "0x1", "0b1", "0o7", "1e3", "1.0", "1,0", "10L"):
            self.refused(text)


if __name__ == "__main__":
    unittest.main()
