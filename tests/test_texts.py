"""Promises 5 and 7: how an expression is written, how a text is read, and which refusal comes where."""

import itertools
import random
import unittest

from samestride.errors import NoName, NoTerm, StrideError
from samestride.texts import read, shown

ONE = ("num", 1)
X = ("name", "x")
WORKINGS = ("+", "-", "*", "<")
PAIRS = ("call",) + WORKINGS
LONGEST = 20000

# Programs of every form, alone and within one another.
WRITTEN = (
    ("0", ("num", 0)),
    ("7", ("num", 7)),
    ("999999", ("num", 999999)),
    ("fn x x", ("fn", "x", X)),
    ("fn abcdefgh 10", ("fn", "abcdefgh", ("num", 10))),
    ("rec f x call f x", ("rec", "f", "x", ("call", ("name", "f"), X))),
    ("call 1 2", ("call", ONE, ("num", 2))),
    ("if 0 1 2", ("if", ("num", 0), ONE, ("num", 2))),
    ("+ 1 2", ("+", ONE, ("num", 2))),
    ("- 1 2", ("-", ONE, ("num", 2))),
    ("* 1 2", ("*", ONE, ("num", 2))),
    ("< 1 2", ("<", ONE, ("num", 2))),
    ("call fn x + x 1 2", ("call", ("fn", "x", ("+", X, ONE)), ("num", 2))),
    ("fn x fn y x", ("fn", "x", ("fn", "y", X))),
    ("fn x fn x x", ("fn", "x", ("fn", "x", X))),
    ("+ + 1 2 3", ("+", ("+", ONE, ("num", 2)), ("num", 3))),
    ("+ 1 + 2 3", ("+", ONE, ("+", ("num", 2), ("num", 3)))),
    ("if if 1 2 3 4 5", ("if", ("if", ONE, ("num", 2), ("num", 3)), ("num", 4), ("num", 5))),
    ("if 1 if 2 3 4 5", ("if", ONE, ("if", ("num", 2), ("num", 3), ("num", 4)), ("num", 5))),
    ("if 1 2 if 3 4 5", ("if", ONE, ("num", 2), ("if", ("num", 3), ("num", 4), ("num", 5)))),
    ("call call 1 2 3", ("call", ("call", ONE, ("num", 2)), ("num", 3))),
    ("call rec f n if < n 1 1 * n call f - n 1 6",
     ("call",
      ("rec", "f", "n",
       ("if", ("<", ("name", "n"), ONE), ONE,
        ("*", ("name", "n"), ("call", ("name", "f"), ("-", ("name", "n"), ONE))))),
      ("num", 6))),
    ("fn num num", ("fn", "num", ("name", "num"))),
    ("fn name name", ("fn", "name", ("name", "name"))),
    ("rec num name call num name", ("rec", "num", "name", ("call", ("name", "num"), ("name", "name")))),
    ("fn fnx + fnx 1", ("fn", "fnx", ("+", ("name", "fnx"), ONE))),
    ("rec iff callx + iff callx", ("rec", "iff", "callx", ("+", ("name", "iff"), ("name", "callx")))),
)


def chain(front, length, last, back=""):
    return front * length + last + back * length


# A text of so many places, none deep: a tree of workings, and a function over it where the number is even.
def text_of_places(count):
    if count % 2 == 0:
        return "fn x " + text_of_places(count - 1)
    if count == 1:
        return "1"
    left = (count - 1) // 2
    left += 1 - left % 2
    return "+ " + text_of_places(left) + " " + text_of_places(count - 1 - left)


def count_places(E):
    return 1 + sum(count_places(part) for part in E[1:] if isinstance(part, tuple))


def count_deep(E):
    inner = [count_deep(part) for part in E[1:] if isinstance(part, tuple)]
    return 1 + max(inner) if inner else 0


def all_kinds(E):
    told = [type(E)]
    for part in E:
        told.extend(all_kinds(part) if isinstance(part, tuple) else [type(part)])
    return told


# Every expression of just so many words, from a small stock of names and numbers.
def expressions_of_words(count, names, numbers, known):
    if count in known:
        return known[count]
    told = []
    if count == 1:
        told = [("name", name) for name in names] + [("num", number) for number in numbers]
    if count > 2:
        for E in expressions_of_words(count - 2, names, numbers, known):
            told.extend(("fn", name, E) for name in names)
    if count > 3:
        for E in expressions_of_words(count - 3, names, numbers, known):
            told.extend(("rec", f, x, E) for f in names for x in names)
    for split in itertools.product(range(1, count), repeat=2):
        if sum(split) == count - 1:
            for inner in itertools.product(*(expressions_of_words(k, names, numbers, known) for k in split)):
                told.extend((word,) + inner for word in ("call", "+"))
    for split in itertools.product(range(1, count), repeat=3):
        if sum(split) == count - 1:
            for inner in itertools.product(*(expressions_of_words(k, names, numbers, known) for k in split)):
                told.append(("if",) + inner)
    known[count] = told
    return told


def plainly_written(E):
    if E[0] in ("num", "name"):
        return str(E[1])
    return " ".join([E[0]] + [plainly_written(part) if isinstance(part, tuple) else part for part in E[1:]])


def names_are_good(E, bound):
    if E[0] == "name":
        return E[1] in bound
    if E[0] == "rec" and E[1] == E[2]:
        return False
    inner = bound + tuple(part for part in E[1:] if isinstance(part, str))
    return all(names_are_good(part, inner) for part in E[1:] if isinstance(part, tuple))


def some_program(chance, deep, bound):
    word = chance.choice(("leaf", "fn", "rec", "call", "if") + WORKINGS)
    if deep == 0 or word == "leaf":
        if bound and chance.random() < 0.7:
            return ("name", chance.choice(bound))
        return ("num", chance.choice((0, 1, 9, 10, 99999, 100000, 999999)))
    names = ("a", "b", "x", "num", "name", "abcdefgh")
    if word == "fn":
        x = chance.choice(names)
        return ("fn", x, some_program(chance, deep - 1, bound + (x,)))
    if word == "rec":
        f, x = chance.sample(names, 2)
        return ("rec", f, x, some_program(chance, deep - 1, bound + (f, x)))
    count = 3 if word == "if" else 2
    return (word,) + tuple(some_program(chance, deep - 1, bound) for k in range(count))


def some_programs():
    chance = random.Random(7)
    told = [some_program(chance, k % 8, ()) for k in range(3000)]
    return [E for E in told if count_places(E) <= 100]


class Shown(unittest.TestCase):
    def test_programs(self):
        for text, E in WRITTEN:
            self.assertEqual(shown(E), text)
            self.assertIs(type(shown(E)), str)

    def test_free_names(self):
        self.assertEqual(shown(X), "x")
        self.assertEqual(shown(("name", "num")), "num")
        self.assertEqual(shown(("name", "name")), "name")
        self.assertEqual(shown(("call", ("name", "f"), ("fn", "y", X))), "call f fn y x")
        self.assertEqual(shown(("if", X, ("name", "y"), ("name", "z"))), "if x y z")

    def test_each_form_within_each(self):
        inner = (
            ("5", ("num", 5)),
            ("y", ("name", "y")),
            ("fn y y", ("fn", "y", ("name", "y"))),
            ("rec g y y", ("rec", "g", "y", ("name", "y"))),
            ("if 2 3 4", ("if", ("num", 2), ("num", 3), ("num", 4))),
        ) + tuple((word + " 2 3", (word, ("num", 2), ("num", 3))) for word in PAIRS)
        for text, E in inner:
            self.assertEqual(shown(("fn", "x", E)), "fn x " + text)
            self.assertEqual(shown(("rec", "f", "x", E)), "rec f x " + text)
            self.assertEqual(shown(("if", E, ONE, X)), "if " + text + " 1 x")
            self.assertEqual(shown(("if", ONE, E, X)), "if 1 " + text + " x")
            self.assertEqual(shown(("if", ONE, X, E)), "if 1 x " + text)
            for word in PAIRS:
                self.assertEqual(shown((word, E, X)), word + " " + text + " x")
                self.assertEqual(shown((word, X, E)), word + " x " + text)

    def test_beyond_what_is_read(self):
        E = X
        for k in range(119):
            E = ("fn", "x", E)
        self.assertEqual(shown(E), chain("fn x ", 119, "x"))
        E = ONE
        for k in range(59):
            E = ("+", E, ONE)
        self.assertEqual(shown(E), chain("+ ", 59, "1", " 1"))

    def test_there_and_back(self):
        for E in some_programs():
            self.assertEqual(shown(E), plainly_written(E))
            self.assertEqual(read(shown(E)), E)
            self.assertEqual(shown(read(plainly_written(E))), plainly_written(E))


class Read(unittest.TestCase):
    def refused(self, error, text):
        with self.assertRaises(StrideError, msg=repr(text[:200])) as caught:
            read(text)
        self.assertIsInstance(caught.exception, error, repr(text[:200]))

    def test_programs(self):
        for text, E in WRITTEN:
            self.assertEqual(read(text), E)
            self.assertEqual(read(text), E)

    def test_kinds(self):
        for text, E in WRITTEN:
            self.assertEqual(all_kinds(read(text)), all_kinds(E))
            for kind in all_kinds(read(text)):
                self.assertIn(kind, (tuple, str, int))

    def test_a_word_too_few(self):
        for text, E in WRITTEN:
            words = text.split(" ")
            for count in range(len(words)):
                self.refused(NoTerm, " ".join(words[:count]))

    def test_a_word_too_many(self):
        for text, E in WRITTEN:
            for more in ("1", "x", "fn", "rec", "call", "if", "+", "-", "*", "<", "fn x x"):
                self.refused(NoTerm, text + " " + more)

    def test_two_expressions(self):
        for first, E in WRITTEN:
            for second, F in WRITTEN:
                self.refused(NoTerm, first + " " + second)

    def test_other_words(self):
        for word in ("X", "x1", "1x", "abcdefghi", "1000000", "01", "00", "-1", "+1", "(", ")", "FN", "Fn",
                     "fn,", "/", ">", "=", "<=", "++", "%", "**", "lambda:", "\\", "'x'", "~", "_"):
            self.refused(NoTerm, word)
            self.refused(NoTerm, "fn x " + word)
            self.refused(NoTerm, "fn " + word + " 1")
            self.refused(NoTerm, "rec " + word + " x 1")
            self.refused(NoTerm, "rec f " + word + " 1")
            self.refused(NoTerm, "+ " + word + " 1")
            self.refused(NoTerm, "+ 1 " + word)
            self.refused(NoTerm, word + " 1 1")

    def test_no_name_where_one_is_bound(self):
        for word in ("fn", "rec", "call", "if", "+", "-", "*", "<", "0", "1", "12", ""):
            self.refused(NoTerm, "fn " + word + " 1")
            self.refused(NoTerm, "rec " + word + " x 1")
            self.refused(NoTerm, "rec f " + word + " 1")
            self.refused(NoTerm, "rec " + word + " " + word + " 1")
        self.refused(NoTerm, "fn call 1 2 3")
        self.refused(NoTerm, "fn x")
        self.refused(NoTerm, "rec f x")

    def test_blanks_too_many(self):
        for text, E in WRITTEN:
            self.refused(NoTerm, " " + text)
            self.refused(NoTerm, text + " ")
            self.refused(NoTerm, " " + text + " ")
            for at in range(len(text)):
                if text[at] == " ":
                    self.refused(NoTerm, text[:at] + " " + text[at:])
        for text in ("", " ", "  ", "   "):
            self.refused(NoTerm, text)

    def test_line_ends_and_tabs(self):
        for text, E in WRITTEN:
            for sign in ("\n", "\t", "\r", "\r\n"):
                self.refused(NoTerm, sign + text)
                self.refused(NoTerm, text + sign)
                self.refused(NoTerm, sign + " " + text)
                self.refused(NoTerm, text + " " + sign)
                for at in range(len(text)):
                    if text[at] == " ":
                        self.refused(NoTerm, text[:at] + sign + text[at + 1:])
                        self.refused(NoTerm, text[:at] + sign + text[at:])
                        self.refused(NoTerm, text[:at + 1] + sign + text[at + 1:])
        for text in ("\n", "\t", "\n\n", " \n", "\t "):
            self.refused(NoTerm, text)

    def test_free_names(self):
        for text in ("x", "num", "name", "abcdefgh", "fn x y", "call fn x x x", "call x fn x x",
                     "if x 1 2", "if 1 x 2", "if 1 2 x", "rec f x g", "+ rec f x f f", "+ fn x 1 x",
                     "fn x call fn y y y", "+ 1 x", "- x 1", "* x 1", "< 1 x", "fn num name", "fn name num"):
            self.refused(NoName, text)

    def test_one_name_twice(self):
        for text in ("rec f f f", "rec f f 1", "rec num num num", "fn x rec x x x", "+ 1 rec f f 2",
                     "call rec f x f rec g g g", "rec f x rec x x x", "if 1 2 rec a a 3", "if rec a a 3 1 2",
                     "if 1 rec a a 3 2"):
            self.refused(NoName, text)

    def test_free_and_twice(self):
        for text in ("rec f f g", "+ x rec f f 1", "+ rec f f 1 x"):
            self.refused(NoName, text)

    def test_names_alike_are_no_fault_elsewhere(self):
        for text in ("fn x fn x x", "rec f x rec f x call f x", "rec f x rec x f call f x", "fn f rec f x f",
                     "fn x rec f x x", "rec f x fn f f", "rec f x fn x x", "rec a aa a", "rec aa a a"):
            self.assertEqual(shown(read(text)), text)

    def test_no_term_goes_ahead_of_no_name(self):
        for fault in ("x", "rec f f f", "rec f f g", "fn x y", "+ x 1"):
            self.refused(NoTerm, fault + " 1")
            self.refused(NoTerm, fault + " ")
            self.refused(NoTerm, " " + fault)
            self.refused(NoTerm, fault + "\n")
            self.refused(NoTerm, "+ " + fault)
            self.refused(NoTerm, "+ " + fault + " 01")
            self.refused(NoTerm, "+ 1000000 " + fault)
            self.refused(NoTerm, "if " + fault + " 1")
            self.refused(NoTerm, "call " + fault + " X")
            self.refused(NoTerm, "fn 1 " + fault)
            self.refused(NoTerm, fault + " " + fault)
            self.refused(NoName, "+ " + fault + " 1")

    def test_no_term_for_too_great_goes_ahead_of_no_name(self):
        for fault, count in (("x", 1), ("rec f f f", 2), ("fn x y", 2), ("rec f f g", 2)):
            self.refused(NoName, "+ " + fault + " " + text_of_places(99 - count))
            self.refused(NoName, "+ " + text_of_places(99 - count) + " " + fault)
            self.refused(NoTerm, "+ " + fault + " " + text_of_places(100 - count))
            self.refused(NoTerm, "+ " + text_of_places(100 - count) + " " + fault)
        self.refused(NoName, chain("fn y ", 20, "x"))
        self.refused(NoTerm, chain("fn y ", 21, "x"))
        self.refused(NoName, chain("rec f f ", 20, "f"))
        self.refused(NoTerm, chain("rec f f ", 21, "f"))
        self.refused(NoName, "+ x " + chain("fn y ", 19, "1"))
        self.refused(NoTerm, "+ x " + chain("fn y ", 20, "1"))
        self.refused(NoName, "+ " + chain("fn y ", 19, "1") + " x")
        self.refused(NoTerm, "+ " + chain("fn y ", 20, "1") + " x")


class Bounds(unittest.TestCase):
    def refused(self, text):
        with self.assertRaises(NoTerm, msg=text[:200]):
            read(text)

    def taken(self, text, count=None, deep=None):
        E = read(text)
        self.assertEqual(plainly_written(E), text)
        if count is not None:
            self.assertEqual(count_places(E), count)
        if deep is not None:
            self.assertEqual(count_deep(E), deep)

    def test_places(self):
        for count in range(1, 101):
            self.taken(text_of_places(count), count=count)
        for count in range(101, 140):
            self.refused(text_of_places(count))
        for count in (198, 199, 200, 201, 1001, 5001):
            self.refused(text_of_places(count))

    def test_places_by_each_form(self):
        for front in PAIRS:
            text = front + " " + text_of_places(49) + " "
            self.taken(text + text_of_places(50), count=100)
            self.refused(text + text_of_places(51))
            self.refused(front + " " + text_of_places(50) + " " + text_of_places(50))
        text = "if " + text_of_places(33) + " " + text_of_places(33) + " "
        self.taken(text + text_of_places(33), count=100)
        self.refused(text + text_of_places(34))
        self.refused("if " + text_of_places(34) + " " + text_of_places(33) + " " + text_of_places(33))
        self.taken("fn x " + text_of_places(99), count=100)
        self.refused("fn x " + text_of_places(100))
        self.taken("rec f x " + text_of_places(99), count=100)
        self.refused("rec f x " + text_of_places(100))

    def test_bound_names_are_no_places(self):
        leaf = chain("rec f x ", 12, "call f x")
        many = "+ + + " + " ".join([leaf] * 3) + " + " + leaf + " " + leaf
        self.taken(many, count=79)
        text = "if " + many + " " + chain("rec f x ", 17, "x") + " "
        self.taken(text + "rec f x x", count=100)
        self.refused(text + "rec f x rec f x x")

    def test_names_count_as_numbers_do(self):
        self.taken("fn x " + chain("+ ", 19, "x", " x"), count=40, deep=20)
        text = "fn x " + text_of_places(99).replace("1", "x")
        self.taken(text, count=100)
        self.refused("fn x " + text)

    def test_deep(self):
        for front in ("fn x ", "rec f x ", "fn abcdefgh "):
            for length in range(0, 21):
                self.taken(chain(front, length, "1"), count=length + 1, deep=length)
            for length in range(21, 60):
                self.refused(chain(front, length, "1"))

    def test_deep_on_each_side(self):
        for front, back in (
            [(word + " ", " 1") for word in PAIRS]
            + [(word + " 1 ", "") for word in PAIRS]
            + [("if ", " 1 1"), ("if 1 ", " 1"), ("if 1 1 ", "")]
        ):
            for length in (1, 19, 20):
                self.taken(chain(front, length, "1", back), deep=length)
            for length in (21, 22, 30):
                self.refused(chain(front, length, "1", back))

    def test_the_deepest_part_counts(self):
        deep = chain("fn x ", 19, "x")
        deeper = chain("fn x ", 20, "x")
        for word in PAIRS:
            for texts in itertools.product((deep, deeper, "1"), repeat=2):
                text = word + " " + " ".join(texts)
                if deeper in texts:
                    self.refused(text)
                else:
                    self.taken(text)
        for texts in itertools.product((deep, deeper, "1"), repeat=3):
            text = "if " + " ".join(texts)
            if deeper in texts:
                self.refused(text)
            else:
                self.taken(text)

    def test_both_bounds_at_once(self):
        text = "if 1 " + chain("fn x ", 19, "x") + " "
        self.taken(text + text_of_places(78), count=100, deep=20)
        self.refused(text + text_of_places(79))
        self.refused("if 1 fn x " + chain("fn x ", 19, "x") + " " + text_of_places(77))


class LongTexts(unittest.TestCase):
    def refused(self, text):
        self.assertLessEqual(len(text), LONGEST)
        with self.assertRaises(NoTerm, msg=text[:100]):
            read(text)

    def test_the_same_words_on_and_on(self):
        for words in ("fn x ", "rec f x ", "rec f f ", "call ", "if ", "+ ", "- ", "* ", "< ", "if 1 ", "if 1 1 ",
                      "call 1 ", "+ 1 ", "call fn x ", "call fn x x ", "+ fn x x ", "1 ", "x ", "fn ", "rec ",
                      "fn fn ", "if x ", "+ x ", "fn x y ", " ", "  ", "\n", "\t", " \n", "+ \t", "( ", "~"):
            text = words * (LONGEST // len(words))
            self.refused(text)
            self.refused(text[:-1])
            self.refused((text + "1")[-LONGEST:])
            self.refused((text + "x")[-LONGEST:])

    def test_one_whole_expression_but_too_deep(self):
        for front, back in (("fn x ", ""), ("rec f x ", ""), ("rec f f ", ""), ("fn y ", ""), ("call ", " x"),
                            ("call x ", ""), ("+ ", " 1"), ("+ 1 ", ""), ("if ", " 1 1"), ("if 1 ", " 1"),
                            ("if 1 1 ", ""), ("call fn x x ", "")):
            for length in (100, 1000, (LONGEST - 1) // len(front + back)):
                self.refused(chain(front, length, "1", back))
                self.refused(chain(front, length, "x", back))

    def test_one_whole_expression_but_too_great(self):
        self.refused(text_of_places(9999))
        text = "1"
        while len(text) * 3 + 5 <= LONGEST:
            text = "if " + text + " " + text + " " + text
            if len(text) > 1000:
                self.refused(text)

    def test_long_words(self):
        for sign in "ax109X+- ~":
            for length in (1000, 5000, LONGEST):
                self.refused(sign * length)
        self.refused("fn " + "x" * (LONGEST - 5) + " 1")
        self.refused("+ 1 " + "1" * (LONGEST - 4))
        self.refused("+ 1 1" + " " * (LONGEST - 5))
        self.refused(" " * (LONGEST - 5) + "+ 1 1")


class AllShortTexts(unittest.TestCase):
    def test_against_all_expressions(self):
        names, numbers = ("f", "x"), (0,)
        stock = names + ("0", "fn", "rec", "call", "if", "+")
        known = {}
        for count in range(1, 6):
            told = {plainly_written(E): E for E in expressions_of_words(count, names, numbers, known)}
            for words in itertools.product(stock, repeat=count):
                self.check(" ".join(words), told)

    def check(self, text, told):
        if text not in told:
            with self.assertRaises(NoTerm, msg=text):
                read(text)
        elif names_are_good(told[text], ()):
            self.assertEqual(read(text), told[text])
        else:
            with self.assertRaises(NoName, msg=text):
                read(text)

    def test_longer_ones_that_are_expressions(self):
        names, numbers = ("f", "x"), (0,)
        told = {plainly_written(E): E for E in expressions_of_words(6, names, numbers, {})}
        for text in told:
            self.check(text, told)


if __name__ == "__main__":
    unittest.main()
