"""Promises 28 and 29: the book of a program, and what is asked by all five."""

import unittest

from machines import MACHINES
from oracle import (
    at_once, chain, count_places, function_of, great_programs, kinded_programs, many_programs, name, num, told_row,
)
from samestride.books import asked, book
from samestride.texts import read, shown

DOUBLED = "call rec d n if n call fn g fn y call g call g y call d - n 1 fn y y "
WAITING = "call rec f n if n + 1 call f - n 1 0 "


# The least number of steps of a machine until it has made so many loud ones, for each number up to this one.
def told_counts(machine, E, loud):
    state, made, told = machine.begun(E), 0, [0]
    while len(told) < loud + 1:
        how, state = machine.step(state)
        made += 1
        if how == "loud":
            told.append(made)
    return told


def told_book(E, most):
    loud = len(told_row(E, most)[0]) - 1
    counts = [told_counts(machine, E, loud) for machine in MACHINES]
    return [tuple(told[k] for told in counts) for k in range(loud + 1)]


class Book(unittest.TestCase):
    def check(self, E, most):
        told = book(E, most)
        self.assertIs(type(told), list)
        self.assertEqual(told, told_book(E, most), shown(E))
        self.assertEqual(len(told), len(told_row(E, most)[0]))
        self.assertEqual(told[0], (0, 0, 0, 0))
        for k, counts in enumerate(told):
            self.assertIs(type(counts), tuple)
            self.assertEqual([type(count) for count in counts], [int] * 4)
            self.assertEqual(counts[2], k)
        return told

    def test_by_hand(self):
        self.assertEqual(book(read("7"), 9), [(0, 0, 0, 0)])
        self.assertEqual(book(read("fn x call 1 2"), 9), [(0, 0, 0, 0)])
        # Each working but the graph's: the working, its first and its second part; then the loud step itself.
        self.assertEqual(book(read("+ 1 2"), 9), [(0, 0, 0, 0), (5, 4, 1, 3)])
        self.assertEqual(book(read("if 1 2 3"), 9), [(0, 0, 0, 0), (3, 3, 1, 2)])
        self.assertEqual(book(read("call fn x + x 1 7"), 9), [(0, 0, 0, 0), (5, 4, 1, 3), (10, 8, 2, 6)])
        # Between the two the stack with a dump and the code go back.
        self.assertEqual(book(read("+ 9 call rec f x if x 4 5 0"), 9),
                         [(0, 0, 0, 0), (8, 6, 1, 4), (11, 9, 2, 6), (13, 12, 3, 9)])

    def test_no_steps(self):
        for text in ("7", "fn x x", "+ 1 2", "call 1 2", "call rec f n call f + n 1 0"):
            self.assertEqual(book(read(text), 0), [(0, 0, 0, 0)])

    def test_fewer_steps_are_the_beginning(self):
        for text in ("call rec f n if n + n call f - n 1 0 3", "call rec f n call f + n 1 0", DOUBLED + "6",
                     "+ 1 fn x x", "call fn x call x 7 3"):
            E = read(text)
            whole = book(E, 40)
            for most in range(41):
                self.assertEqual(book(E, most), whole[:most + 1])

    def test_rows_of_each_end(self):
        for text, word, count in (
            ("call rec f n if < n 1 1 * n call f - n 1 3", "value", 19), ("+ 1 + 2 fn x x", "stuck", 1),
            ("call fn x call x x 7", "stuck", 2), ("call rec f n call f + n 1 0", "open", 61),
            (DOUBLED + "40", "wide", 34),
        ):
            self.assertEqual(told_row(read(text), 60)[1], word)
            self.assertEqual(len(self.check(read(text), 60)), count)

    def test_a_thousand_steps(self):
        for text, count in (("call rec f n call f + n 1 0", 1001), ("call rec f n if n call f - n 1 7 400", 1001),
                            ("call fn w call w w fn w call w w", 1001), ("call rec f n if n call f - n 1 7 300", 903),
                            ("call rec f n if n call f call fn x - x 1 n 7 400", 1001)):
            with at_once():
                told = book(read(text), 1000)
            self.assertEqual(len(told), count)
            self.assertEqual(told, told_book(read(text), 1000))

    # By sums over the steps of one round: five of rows for the working and four for the call.
    def test_a_loop_by_sums(self):
        told = book(read("call rec f n call f + n 1 0"), 1000)
        self.assertEqual(told[:4], [(0, 0, 0, 0), (5, 4, 1, 3), (13, 10, 2, 7), (14, 11, 3, 8)])
        for k in range(1, 998):
            self.assertEqual([last - first for first, last in zip(told[k], told[k + 2])], [9, 7, 2, 5])

    def test_the_list_is_the_askers_own(self):
        E = read("call fn x + x 1 7")
        kept = tuple(book(E, 9))
        told = book(E, 9)
        told.append((1, 2, 3, 4))
        told[0] = None
        self.assertEqual(tuple(book(E, 9)), kept)

    def test_many_programs(self):
        for E in many_programs():
            self.check(E, 40)

    def test_great_programs(self):
        for E in great_programs():
            with at_once():
                self.check(E, 20)


class Asked(unittest.TestCase):
    # All five tell the same as the row by putting in.
    def check(self, E, most):
        row, word = told_row(E, most)
        told = asked(E, most)
        self.assertIs(type(told), list)
        self.assertEqual([type(answer) for answer in told], [tuple] * 5)
        self.assertEqual([type(answer[1]) for answer in told], [int] * 5)
        self.assertTrue(told == [(word, len(row) - 1, row[-1])] * 5, (shown(E), told))
        return told[0]

    def test_by_hand(self):
        for text, most, word, loud, last in (
            ("7", 9, "value", 0, "7"), ("fn x x", 0, "value", 0, "fn x x"), ("+ 1 2", 9, "value", 1, "3"),
            ("+ 1 2", 0, "open", 0, "+ 1 2"), ("call 1 2", 9, "stuck", 0, "call 1 2"),
            ("call 1 + 2 3", 9, "stuck", 1, "call 1 5"), ("call 1 + 2 3", 0, "open", 0, "call 1 + 2 3"),
            ("call rec f n if n + n call f - n 1 0 3", 99, "value", 14, "6"),
            ("call rec f n call f + n 1 0", 5, "open", 5, "call rec f n call f + n 1 + 2 1"),
            ("call fn x call x x 7", 9, "stuck", 1, "call 7 7"), ("if fn x x 1 2", 0, "stuck", 0, "if fn x x 1 2"),
        ):
            self.assertEqual(asked(read(text), most), [(word, loud, read(last))] * 5)

    # So many steps as handed in are made, and quiet steps alone are left.
    def test_ends_with_quiet_steps(self):
        for text, most, word, last in (
            ("+ 1 2", 1, "value", "3"), ("call fn x x 7", 1, "value", "7"), ("if 1 fn x x 2", 1, "value", "fn x x"),
            ("call fn x fn y x 7", 1, "value", "fn y 7"), ("call rec f n if n call f - n 1 7 2", 8, "value", "7"),
            ("call fn x call x 1 2", 1, "stuck", "call 2 1"), ("+ call fn x x 7 fn y y", 1, "stuck", "+ 7 fn y y"),
            ("if 1 if fn x x 2 3 4", 1, "stuck", "if fn x x 2 3"),
        ):
            self.assertEqual(asked(read(text), most), [(word, most, read(last))] * 5)
            self.assertEqual(asked(read(text), most + 1), [(word, most, read(last))] * 5)
            self.assertEqual([answer[:2] for answer in asked(read(text), most - 1)], [("open", most - 1)] * 5)

    def test_each_number_of_steps(self):
        for text in ("call rec f n if n + n call f - n 1 0 3", DOUBLED + "6", "call rec f n + n call f + n 1 0",
                     "call fn x call x fn y + x y fn z call z 3", "+ 1 call fn x call x x 7"):
            for most in range(45):
                self.check(read(text), most)

    def test_open_goes_ahead_of_wide(self):
        E = read(DOUBLED + "40")
        word, loud, last = self.check(E, 1000)
        self.assertEqual(word, "wide")
        self.assertEqual(asked(E, loud + 1), [("wide", loud, last)] * 5)
        self.assertEqual(asked(E, loud), [("open", loud, last)] * 5)
        self.assertEqual(asked(E, loud - 1)[0][:2], ("open", loud - 1))
        E = ("call", ("fn", "x", ("+", name("x"), name("x"))), function_of(60))
        self.assertEqual([asked(E, most)[0][:2] for most in (0, 1, 2)], [("open", 0), ("wide", 0), ("wide", 0)])
        self.assertEqual(asked(E, 1), [("wide", 0, E)] * 5)

    # Just 120 places behind a step, and one more.
    def test_the_bound(self):
        for body in (("if", name("x"), num(1), name("x")), ("call", name("x"), name("x")), ("fn", "z", name("x"))):
            words = []
            for count in range(50, 120):
                E = ("call", ("fn", "x", body), function_of(count))
                if count_places(E) <= 120:
                    words.append(self.check(E, 1)[0])
                    behind = count_places(body) + body.count(name("x")) * (count - 1)
                    self.assertEqual(words[-1] == "wide", behind > 120, count)
        E = ("call", ("fn", "x", ("+", ("+", num(1), num(2)), name("x"))), function_of(113))
        self.assertEqual(self.check(E, 9)[0], "stuck")

    def test_doubled_some_forty_times(self):
        for count in (8, 20, 39, 40, 41, 60, 999999):
            for text in (DOUBLED + str(count), "call " + DOUBLED + str(count) + " 7",
                         "call fn g call fn z fn q call call g z g 4 " + DOUBLED + str(count)):
                with at_once():
                    self.assertEqual(self.check(read(text), 1000)[0], "wide")

    def test_functions_that_double_themselves(self):
        for text in ("call rec f g call f fn x call g call g x fn x x",
                     "call rec f g call f fn x + call g x call g x fn x x",
                     "call call fn t call t call t call t t fn f fn x call f call f x fn x + x 1"):
            with at_once():
                self.check(read(text), 1000)

    # Let a be fn x x, and each further name a function that calls the one ahead twice.
    def test_doubled_by_many_names(self):
        names = "abcdefghijklm"
        E = name(names[-1])
        for k in range(len(names) - 1, 0, -1):
            ahead = name(names[k - 1])
            E = ("call", ("fn", names[k], E), ("fn", "y", ("call", ahead, ("call", ahead, name("y")))))
        E = ("call", ("fn", "a", E), ("fn", "x", name("x")))
        with at_once():
            self.assertEqual(self.check(E, 1000)[0], "wide")

    def test_a_thousand_and_more_workings_wait(self):
        for text in (WAITING + "1200", "call rec f n if n + call f - n 1 1 0 1200", "call rec f n + 1 call f n 0",
                     "call rec f n if n call fn x + x 1 call f - n 1 0 1200",
                     "call rec f n if n if call f - n 1 2 3 0 1200"):
            with at_once():
                self.assertEqual(self.check(read(text), 1000)[0], "wide")

    def test_as_many_workings_as_are_not_wide(self):
        words = [self.check(read(WAITING + str(count)), 1000)[0] for count in range(60)]
        self.assertEqual(words[0], "value")
        self.assertEqual(words[-1], "wide")
        self.assertEqual(sorted(words), words)

    def test_a_thousand_steps(self):
        for text, most, word, loud in (
            ("call rec f n call f + n 1 0", 1000, "open", 1000), ("call rec f n call f + n 1 0", 999, "open", 999),
            ("call rec f n if n call f - n 1 7 332", 1000, "value", 998),
            ("call rec f n if n call f - n 1 7 333", 1000, "open", 1000),
            ("call fn w call w w fn w call w w", 1000, "open", 1000),
        ):
            with at_once():
                self.assertEqual(self.check(read(text), most)[:2], (word, loud))

    def test_the_list_is_the_askers_own(self):
        E = read("call fn x + x 1 7")
        told = asked(E, 9)
        told.clear()
        self.assertEqual(asked(E, 9), [("value", 2, num(8))] * 5)

    def test_many_programs(self):
        for E in many_programs():
            self.check(E, 25)

    def test_long_rows(self):
        told = [E for E in kinded_programs(8, 3000) if len(told_row(E, 30)[0]) > 20]
        for E in told[:60]:
            self.check(E, 1000)

    def test_great_programs(self):
        for E in great_programs() + [chain(lambda E: ("call", ("fn", "x", ("+", name("x"), num(1))), E), 19, num(1))]:
            with at_once():
                for most in (0, 1, 20, 1000):
                    self.check(E, most)


if __name__ == "__main__":
    unittest.main()
