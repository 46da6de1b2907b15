"""Promise 30: the desk."""

import unittest

from oracle import TEXTS, at_once, kinded_programs
from samestride.books import asked, book
from samestride.desk import answered
from samestride.errors import NoName, NoTerm, StrideError
from samestride.texts import read, shown


LINES = r"\A(value|stuck|open|wide) [0-9]+ [-+*<a-z0-9 ]*[a-z0-9](\n[0-9]+( [0-9]+){3})+\Z"


class Answers(unittest.TestCase):
    def test_by_hand(self):
        for text, most, lines in (
            ("7", 9, ("value 0 7", "0 0 0 0")),
            ("fn x x", 0, ("value 0 fn x x", "0 0 0 0")),
            ("+ 1 2", 9, ("value 1 3", "0 0 0 0", "5 4 1 3")),
            ("+ 1 2", 1, ("value 1 3", "0 0 0 0", "5 4 1 3")),
            ("+ 1 2", 0, ("open 0 + 1 2", "0 0 0 0")),
            ("call 1 2", 9, ("stuck 0 call 1 2", "0 0 0 0")),
            ("call fn x + x 1 7", 9, ("value 2 8", "0 0 0 0", "5 4 1 3", "10 8 2 6")),
            ("call fn x + x 1 7", 1, ("open 1 + 7 1", "0 0 0 0", "5 4 1 3")),
            ("+ 9 call rec f x if x 4 5 0", 3,
             ("value 3 14", "0 0 0 0", "8 6 1 4", "11 9 2 6", "13 12 3 9")),
            ("+ fn x x if 1 2 3", 9, ("stuck 1 + fn x x 2", "0 0 0 0", "6 5 1 3")),
        ):
            told = answered(text, most)
            self.assertIs(type(told), str)
            self.assertEqual(told, "\n".join(lines))

    def test_wide(self):
        told = answered("call rec f n + n call f + n 1 0", 1000).split("\n")
        self.assertRegex(told[0], "^wide 108 [+] 0 [+] 1 ")
        self.assertEqual(len(told), 110)
        self.assertEqual(told[-1], "652 489 108 326")

    # A line end between two lines each, none ahead of the first and none behind the last.
    def test_lines(self):
        for text in TEXTS:
            for most in (0, 1, 7, 60):
                E = read(text)
                told = answered(text, most)
                self.assertRegex(told, LINES)
                word, loud, last = asked(E, most)[0]
                lines = told.split("\n")
                self.assertEqual(lines[0], f"{word} {loud} {shown(last)}")
                self.assertEqual(len(lines), loud + 2)
                counts = [tuple(int(figures) for figures in line.split(" ")) for line in lines[1:]]
                self.assertEqual(counts, book(E, most))

    def test_many_programs(self):
        for E in kinded_programs(11, 300):
            try:
                read(shown(E))
            except NoTerm:
                continue
            told = answered(shown(E), 30).split("\n")
            word, loud, last = asked(E, 30)[3]
            self.assertEqual(told[0], " ".join((word, str(loud), shown(last))))
            self.assertEqual(told[1:], [" ".join(str(count) for count in counts) for counts in book(E, 30)])

    def test_a_thousand_steps(self):
        with at_once():
            told = answered("call rec f n call f + n 1 0", 1000).split("\n")
        self.assertEqual(told[0], "open 1000 call rec f n call f + n 1 500")
        self.assertEqual(len(told), 1002)
        with at_once():
            told = answered("call rec d n if n call fn g fn y call g call g y call d - n 1 fn y y 40", 1000)
        self.assertTrue(told.startswith("wide 33 "))

    def test_again(self):
        told = [answered(text, 20) for text in TEXTS]
        self.assertEqual([answered(text, 20) for text in reversed(TEXTS)], list(reversed(told)))


class Refused(unittest.TestCase):
    NO_TERM = (
        "", " ", "\n", "+", "+ 1", "+ 1 2 3", "1 2", "fn x", "fn 1 2", "call 1", "if 1 2", "rec f x", "fn fn 1",
        "fn if 1", "call fn x x", "+ 1 x y", "value 0 7", "01", "-1", "1000000", "abcdefghi", "Fn x x", "/ 1 2",
        "fn  x x", " 1", "1 ", "1\n", "+\t1 2", "fn x " * 21 + "x", "+ 1 " * 21 + "1",
    )
    NO_NAME = (
        "x", "fn x y", "call fn x x x", "+ 1 f", "rec f f 1", "rec f x y", "fn x rec x x x", "if 1 2 num",
        "call rec f f f 1",
    )

    def test_no_term(self):
        for text in self.NO_TERM:
            self.assertRaises(NoTerm, answered, text, 5)
            self.assertRaises(NoTerm, read, text)

    def test_no_name(self):
        for text in self.NO_NAME:
            self.assertRaises(NoName, answered, text, 5)
            self.assertRaises(NoName, read, text)

    def test_too_many_places(self):
        for deep, refused in ((5, False), (6, True)):
            text = "1"
            for k in range(deep):
                text = f"+ {text} {text}"
            if refused:
                self.assertRaises(NoTerm, answered, text, 5)
            else:
                self.assertTrue(answered(text, 5).startswith("open 5 "))

    def test_refused_whatever_the_steps(self):
        for most in (0, 1, 1000):
            self.assertRaises(NoTerm, answered, "+ 1", most)
            self.assertRaises(NoName, answered, "x", most)
            self.assertRaises(StrideError, answered, "x", most)

    def test_an_answer_behind_a_refusal(self):
        told = answered("+ 1 2", 5)
        self.assertRaises(NoName, answered, "+ 1 x", 5)
        self.assertEqual(answered("+ 1 2", 5), told)


if __name__ == "__main__":
    unittest.main()
