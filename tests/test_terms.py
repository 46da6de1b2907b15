"""Promises 8 to 12: values, fillings, the next place, a step and the row; promise 2 of what is handed in and told."""

import random
import unittest

from oracle import (
    PAIRS, WORKINGS, chain, count_places, function_of, loose_program, many_programs, name, num, told_filled, told_free,
    told_next, told_row, told_step, tree_of,
)
from samestride.terms import is_value, next_place, put_in, row_of, stepped
from samestride.texts import read, shown

ZERO, ONE, TWO, THREE = num(0), num(1), num(2), num(3)
LAST = num(999999)
F, X, Y = name("f"), name("x"), name("y")
ID = ("fn", "x", X)
REC = ("rec", "f", "x", ("call", F, X))
SUM = ("+", ONE, TWO)
OMEGA = ("call", ("fn", "w", ("call", name("w"), name("w"))), ("fn", "w", ("call", name("w"), name("w"))))


# An expression of few names, some of them free.
def open_expressions():
    chance = random.Random(9)
    told = [loose_program(chance, k % 6, ("a", "b", "f", "x")) for k in range(800)]
    return [E for E in told if count_places(E) <= 120]


class Values(unittest.TestCase):
    def test_values(self):
        for E in (ZERO, LAST, ID, REC, ("fn", "x", OMEGA), ("rec", "f", "x", SUM)):
            self.assertIs(is_value(E), True)

    def test_others(self):
        for E in (("call", ID, ONE), ("call", ONE, ONE), ("if", ONE, TWO, THREE), ("if", ID, ID, ID), OMEGA):
            self.assertIs(is_value(E), False)
        for word in WORKINGS:
            self.assertIs(is_value((word, ONE, TWO)), False)
            self.assertIs(is_value((word, ID, REC)), False)


class Filled(unittest.TestCase):
    def test_a_name(self):
        self.assertEqual(put_in(X, {"x": ONE}), ONE)
        self.assertEqual(put_in(X, {"x": ID}), ID)
        self.assertEqual(put_in(X, {"y": ONE}), X)
        self.assertEqual(put_in(X, {}), X)
        self.assertEqual(put_in(X, {"y": ONE, "x": TWO}), TWO)
        self.assertEqual(put_in(name("num"), {"num": ONE, "name": TWO}), ONE)
        self.assertEqual(put_in(name("name"), {"num": ONE, "name": TWO}), TWO)

    def test_a_number(self):
        for filling in ({}, {"x": ONE}, {"num": ID, "name": ID}):
            self.assertEqual(put_in(THREE, filling), THREE)

    def test_any_expression_without_free_names_is_put_in(self):
        for E in (SUM, OMEGA, REC, ("if", ONE, TWO, THREE), ("call", ONE, TWO)):
            self.assertEqual(put_in(X, {"x": E}), E)
            self.assertEqual(put_in(("+", X, ("fn", "y", X)), {"x": E}), ("+", E, ("fn", "y", E)))

    def test_each_part(self):
        for word in PAIRS:
            self.assertEqual(put_in((word, X, Y), {"x": ONE, "y": TWO}), (word, ONE, TWO))
            self.assertEqual(put_in((word, X, X), {"x": ID}), (word, ID, ID))
            self.assertEqual(put_in((word, X, Y), {"y": TWO}), (word, X, TWO))
        E = ("if", X, Y, F)
        self.assertEqual(put_in(E, {"x": ONE, "y": TWO, "f": THREE}), ("if", ONE, TWO, THREE))
        self.assertEqual(put_in(E, {"y": TWO}), ("if", X, TWO, F))

    def test_bound_names_stay(self):
        self.assertEqual(put_in(ID, {"x": ONE}), ID)
        self.assertEqual(put_in(REC, {"x": ONE, "f": TWO}), REC)
        self.assertEqual(put_in(("fn", "x", ("+", X, Y)), {"x": ONE, "y": TWO}), ("fn", "x", ("+", X, TWO)))
        E = ("rec", "f", "x", ("if", F, X, Y))
        self.assertEqual(put_in(E, {"f": ONE, "x": TWO, "y": THREE}), ("rec", "f", "x", ("if", F, X, THREE)))
        self.assertEqual(put_in(E, {"f": ONE, "x": TWO}), E)

    def test_bound_from_further_out(self):
        E = ("fn", "x", ("fn", "y", ("call", X, Y)))
        self.assertEqual(put_in(E, {"x": ONE, "y": TWO}), E)
        E = ("rec", "f", "x", ("fn", "y", ("call", F, ("+", X, Y))))
        self.assertEqual(put_in(E, {"x": ONE, "y": TWO, "f": THREE}), E)
        E = ("fn", "y", ("call", X, ("fn", "f", ("call", X, F))))
        self.assertEqual(put_in(E, {"x": ONE, "f": TWO}), ("fn", "y", ("call", ONE, ("fn", "f", ("call", ONE, F)))))

    def test_bound_again_within(self):
        E = ("fn", "y", ("call", ("fn", "x", X), X))
        self.assertEqual(put_in(E, {"x": ONE}), ("fn", "y", ("call", ("fn", "x", X), ONE)))
        E = ("+", ("rec", "x", "y", ("call", X, Y)), ("call", X, Y))
        self.assertEqual(put_in(E, {"x": ONE, "y": TWO}), ("+", ("rec", "x", "y", ("call", X, Y)), ("call", ONE, TWO)))
        E = ("fn", "x", ("call", ("fn", "x", X), X))
        self.assertEqual(put_in(E, {"x": ONE}), E)

    def test_a_binding_ends_with_its_function(self):
        for word in PAIRS:
            self.assertEqual(put_in((word, ID, X), {"x": ONE}), (word, ID, ONE))
            self.assertEqual(put_in((word, X, ID), {"x": ONE}), (word, ONE, ID))
            self.assertEqual(put_in((word, REC, ("+", F, X)), {"x": ONE, "f": TWO}), (word, REC, ("+", TWO, ONE)))

    def test_what_is_put_in_is_not_filled_again(self):
        self.assertEqual(put_in(("+", X, Y), {"x": ("fn", "y", Y), "y": ONE}), ("+", ("fn", "y", Y), ONE))
        self.assertEqual(put_in(("fn", "y", X), {"x": ("fn", "x", X), "y": ONE}), ("fn", "y", ("fn", "x", X)))
        self.assertEqual(put_in(("fn", "y", X), {"x": ("fn", "z", ("fn", "y", Y))}),
                         ("fn", "y", ("fn", "z", ("fn", "y", Y))))

    def test_fillings_of_nothing_and_of_other_names(self):
        for E in open_expressions()[:200]:
            self.assertEqual(put_in(E, {}), E)
            self.assertEqual(put_in(E, {"z": ONE, "num": TWO, "fnx": ID}), E)
            bound = {x: ONE for x in ("a", "b", "f", "x") if x not in told_free(E)}
            self.assertEqual(put_in(E, bound), E)

    def test_nothing_that_is_handed_in_is_changed(self):
        filling = {"x": ID, "y": ONE}
        E = ("fn", "y", ("call", X, ("rec", "f", "x", Y)))
        self.assertEqual(put_in(E, filling), ("fn", "y", ("call", ID, ("rec", "f", "x", Y))))
        self.assertEqual(filling, {"x": ID, "y": ONE})
        self.assertEqual(list(filling), ["x", "y"])
        self.assertEqual(E, ("fn", "y", ("call", X, ("rec", "f", "x", Y))))
        filling["y"] = TWO
        self.assertEqual(put_in(("+", X, Y), filling), ("+", ID, TWO))

    def test_deep_and_broad(self):
        for wrap in (lambda E: ("fn", "y", E), lambda E: ("rec", "f", "y", E)):
            deep = chain(wrap, 119, X)
            self.assertTrue(put_in(deep, {"x": ONE}) == chain(wrap, 119, ONE))
            self.assertTrue(put_in(deep, {"x": wrap(ONE)}) == chain(wrap, 120, ONE))
            self.assertTrue(put_in(deep, {"y": ONE, "f": ONE}) == deep)
        many = tree_of(119, X)
        great = function_of(120)
        self.assertEqual(put_in(many, {"x": great}), tree_of(119, great))
        deep = chain(lambda E: ("+", X, E), 59, X)
        self.assertEqual(put_in(deep, {"x": TWO}), chain(lambda E: ("+", TWO, E), 59, TWO))
        deep = chain(lambda E: ("call", E, X), 59, X)
        self.assertEqual(put_in(deep, {"x": TWO}), chain(lambda E: ("call", E, TWO), 59, TWO))

    def test_many(self):
        values = (ONE, ID, REC, SUM, ("fn", "a", ("fn", "b", ("+", name("a"), name("b")))), OMEGA)
        chance = random.Random(1)
        for E in open_expressions():
            filling = {x: chance.choice(values) for x in ("a", "b", "f", "x", "y") if chance.random() < 0.6}
            kept = dict(filling)
            self.assertEqual(put_in(E, filling), told_filled(E, filling), shown(E))
            self.assertEqual(filling, kept)


class NextPlace(unittest.TestCase):
    def check(self, text, number):
        self.assertEqual(next_place(read(text)), number, text)
        if number is not None:
            self.assertIs(type(next_place(read(text))), int)

    def test_a_value_has_none(self):
        for text in ("0", "fn x x", "fn x + 1 2", "rec f x + 1 2", "fn x call fn y y 1", "rec f x if 1 2 3"):
            self.check(text, None)
            self.assertIs(next_place(read(text)), None)

    def test_the_whole(self):
        for text in ("call 1 2", "call fn x x 1", "call rec f x x fn y y", "if 1 2 3", "if fn x x 2 3", "+ 1 2",
                     "- fn x x 1", "* 1 fn x x", "< 1 1"):
            self.check(text, 0)

    def test_the_first_part_goes_ahead(self):
        for word in PAIRS:
            self.check(word + " + 1 2 3", 1)
            self.check(word + " + 1 2 + 3 4", 1)
            self.check(word + " call fn x x 1 + 3 4", 1)
            self.check(word + " + 1 + 2 3 + 3 4", 3)

    def test_then_the_second(self):
        for word in PAIRS:
            self.check(word + " 1 + 3 4", 2)
            self.check(word + " fn x x + 3 4", 3)
            self.check(word + " rec f x call f x if 1 2 3", 5)
            self.check(word + " fn x + x 1 + 3 * 4 5", 7)

    def test_an_if(self):
        self.check("if + 1 2 3 4", 1)
        self.check("if if 1 2 3 4 5", 1)
        self.check("if + 1 * 2 3 4 5", 3)
        self.check("if 1 + 2 3 + 4 5", 0)
        self.check("if 0 call fn x x 1 + 4 5", 0)
        self.check("if fn x x + 2 3 + 4 5", 0)

    def test_no_place_within_a_function(self):
        self.check("call fn x + 1 2 3", 0)
        self.check("call fn x + 1 2 rec f y * 2 3", 0)
        self.check("+ fn x + 1 2 + 3 4", 5)
        self.check("if fn x + 1 2 + 3 4 5", 0)

    def test_far_within(self):
        self.check("+ 1 * 2 - 3 < 4 5", 6)
        self.check("+ * - < 4 5 3 2 1", 3)
        self.check("call fn x x if * 1 + 2 3 call 1 2 call 3 4", 6)
        self.check("call call call fn a a 1 2 3", 2)
        self.check("if if if + 1 2 3 4 5 6 7 8", 3)

    def test_as_deep_as_can_be(self):
        self.assertEqual(next_place(chain(lambda E: ("+", E, ONE), 59, TWO)), 58)
        self.assertEqual(next_place(chain(lambda E: ("+", ONE, E), 59, TWO)), 116)
        self.assertEqual(next_place(chain(lambda E: ("call", E, ONE), 59, TWO)), 58)
        self.assertEqual(next_place(chain(lambda E: ("if", E, ONE, OMEGA), 16, SUM)), 16)

    def test_many(self):
        for E in many_programs():
            for F in told_row(E, 8)[0]:
                self.assertEqual(next_place(F), told_next(F))


class Stepped(unittest.TestCase):
    def check(self, text, behind):
        E = read(text)
        self.assertEqual(stepped(E), ("loud", read(behind)), text)
        self.assertEqual(E, read(text))

    def stuck(self, text):
        self.assertEqual(stepped(read(text)), ("stuck",), text)

    # At the whole, and at places within that are next, all else staying as it is.
    def everywhere(self, text, behind):
        self.check(text, behind)
        for front, back in (("+ ", " 9"), ("- ", " * 1 2"), ("call ", " 9"), ("call ", " * 1 2"), ("+ 9 ", ""),
                            ("call 9 ", ""), ("call fn x + 1 2 ", ""), ("if ", " + 1 1 + 2 2"), ("< fn x x ", ""),
                            ("* 9 if ", " 1 2"), ("call rec f x f - 3 ", ""), ("+ + 1 call ", " 2 * 3 4")):
            self.check(front + text + back, front + behind + back)

    def stuck_everywhere(self, text):
        self.stuck(text)
        for front, back in (("+ ", " 9"), ("- ", " * 1 2"), ("call ", " + 1 2"), ("call fn x x ", ""),
                            ("if ", " + 1 1 2"), ("* 9 if ", " 1 2"), ("call rec f x f - 3 ", "")):
            self.stuck(front + text + back)

    def test_a_value(self):
        for text in ("0", "999999", "fn x x", "fn x + 1 2", "rec f x call f x", "fn x call 1 2"):
            self.assertEqual(stepped(read(text)), ("value",))

    def test_a_call_of_a_fn(self):
        self.everywhere("call fn x + x 1 7", "+ 7 1")
        self.everywhere("call fn x x fn y y", "fn y y")
        self.everywhere("call fn x 3 fn y y", "3")
        self.everywhere("call fn x call x x fn y y", "call fn y y fn y y")
        self.everywhere("call fn x fn y x 7", "fn y 7")
        self.everywhere("call fn x fn x x 7", "fn x x")
        self.everywhere("call fn x call fn x x x 7", "call fn x x 7")
        self.everywhere("call fn x if x x fn y x 0", "if 0 0 fn y 0")
        self.everywhere("call fn num + num 1 7", "+ 7 1")

    def test_a_call_of_a_rec(self):
        self.everywhere("call rec f x x 7", "7")
        self.everywhere("call rec f x f 7", "rec f x f")
        self.everywhere("call rec f x call f x 7", "call rec f x call f x 7")
        self.everywhere("call rec f x fn f call f x 7", "fn f call f 7")
        self.everywhere("call rec f x fn x call f x 7", "fn x call rec f x fn x call f x x")
        self.everywhere("call rec f x rec x f call f x 7", "rec x f call f x")
        self.everywhere("call rec f x 3 fn y y", "3")
        self.everywhere("call rec f x + x 1 fn y y", "+ fn y y 1")

    def test_an_if(self):
        self.everywhere("if 1 + 2 3 + 4 5", "+ 2 3")
        self.everywhere("if 999999 2 3", "2")
        self.everywhere("if 0 + 2 3 + 4 5", "+ 4 5")
        self.everywhere("if 0 2 fn x x", "fn x x")
        self.everywhere("if 7 fn x x 3", "fn x x")

    def test_sums(self):
        for text, told in (("+ 1 2", "3"), ("+ 0 0", "0"), ("+ 999999 0", "999999"), ("+ 0 999999", "999999"),
                           ("+ 999999 1", "0"), ("+ 1 999999", "0"), ("+ 999999 999999", "999998"),
                           ("+ 500000 500000", "0"), ("+ 500000 499999", "999999"), ("+ 600000 500000", "100000")):
            self.everywhere(text, told)

    def test_differences(self):
        for text, told in (("- 3 2", "1"), ("- 2 3", "999999"), ("- 0 0", "0"), ("- 0 1", "999999"),
                           ("- 0 999999", "1"), ("- 999999 0", "999999"), ("- 999999 999999", "0"), ("- 5 10", "999995")):
            self.everywhere(text, told)

    def test_products(self):
        for text, told in (("* 3 2", "6"), ("* 0 999999", "0"), ("* 999999 0", "0"), ("* 999999 999999", "1"),
                           ("* 1000 1000", "0"), ("* 1000 999", "999000"), ("* 999999 2", "999998"),
                           ("* 1 999999", "999999"), ("* 123456 654321", "853376")):
            self.everywhere(text, told)

    def test_less(self):
        for text, told in (("< 1 2", "1"), ("< 2 1", "0"), ("< 1 1", "0"), ("< 0 0", "0"), ("< 0 999999", "1"),
                           ("< 999999 0", "0"), ("< 999998 999999", "1"), ("< 999999 999999", "0"), ("< 9 10", "1")):
            self.everywhere(text, told)

    def test_numbers_are_ints(self):
        for word in WORKINGS:
            for first, second in ((0, 0), (1, 2), (2, 1), (999999, 999999), (0, 999999)):
                told = stepped((word, num(first), num(second)))
                self.assertIs(type(told[1][1]), int)
                self.assertTrue(0 <= told[1][1] <= 999999)

    def test_stuck(self):
        for text in ("call 1 2", "call 0 fn x x", "call 999999 rec f x x", "if fn x x 1 2", "if rec f x x 1 2",
                     "if fn x x + 1 2 + 3 4"):
            self.stuck_everywhere(text)
        for word in WORKINGS:
            for inner in ("fn x x 1", "1 fn x x", "fn x x fn x x", "rec f x x 1", "1 rec f x x", "rec f x x fn y y",
                          "fn x x 0", "0 fn x x"):
                self.stuck_everywhere(word + " " + inner)

    def test_stuck_only_when_its_parts_are_values(self):
        self.check("call 1 + 1 2", "call 1 3")
        self.check("+ fn x x + 1 2", "+ fn x x 3")
        self.check("+ + 1 2 fn x x", "+ 3 fn x x")
        self.check("if call fn x x fn y y 1 2", "if fn y y 1 2")
        self.check("call + 1 2 fn x x", "call 3 fn x x")

    def test_the_first_part_goes_ahead(self):
        for word in PAIRS:
            self.check(word + " + 1 2 + 3 4", word + " 3 + 3 4")
            self.check(word + " 3 + 3 4", word + " 3 7")
        self.stuck("+ call 1 2 + 3 4")
        self.check("+ + 3 4 call 1 2", "+ 7 call 1 2")

    def test_what_becomes_wide_is_told(self):
        E = ("call", ("fn", "x", tree_of(59, X)), function_of(60))
        self.assertEqual(stepped(E), ("loud", tree_of(59, function_of(60))))

    def test_as_deep_as_can_be(self):
        left = stepped(chain(lambda E: ("+", E, ONE), 59, TWO))
        self.assertEqual(left, ("loud", chain(lambda E: ("+", E, ONE), 58, THREE)))
        right = stepped(chain(lambda E: ("+", ONE, E), 59, TWO))
        self.assertEqual(right, ("loud", chain(lambda E: ("+", ONE, E), 58, THREE)))
        self.assertEqual(stepped(chain(lambda E: ("if", E, ONE, TWO), 39, ID)), ("stuck",))

    def test_many(self):
        for E in many_programs():
            for F in told_row(E, 8)[0]:
                self.assertEqual(stepped(F), told_step(F))


class Row(unittest.TestCase):
    def check(self, text, most, word, told):
        found = row_of(read(text), most)
        self.assertEqual(found, ([read(behind) for behind in told], word))
        self.assertIs(type(found), tuple)
        self.assertIs(type(found[0]), list)

    def test_value(self):
        self.check("7", 0, "value", ["7"])
        self.check("fn x + 1 2", 5, "value", ["fn x + 1 2"])
        self.check("+ 1 + 2 3", 2, "value", ["+ 1 + 2 3", "+ 1 5", "6"])
        self.check("+ 1 + 2 3", 1000, "value", ["+ 1 + 2 3", "+ 1 5", "6"])
        self.check("call rec f n if n call f - n 1 n 1", 99, "value",
                   ["call rec f n if n call f - n 1 n 1",
                    "if 1 call rec f n if n call f - n 1 n - 1 1 1",
                    "call rec f n if n call f - n 1 n - 1 1",
                    "call rec f n if n call f - n 1 n 0",
                    "if 0 call rec f n if n call f - n 1 n - 0 1 0",
                    "0"])

    def test_stuck(self):
        self.check("call 1 2", 0, "stuck", ["call 1 2"])
        self.check("call 1 2", 9, "stuck", ["call 1 2"])
        self.check("+ 1 call 2 + 3 4", 1, "stuck", ["+ 1 call 2 + 3 4", "+ 1 call 2 7"])
        self.check("+ 1 call 2 + 3 4", 2, "stuck", ["+ 1 call 2 + 3 4", "+ 1 call 2 7"])

    def test_open(self):
        self.check("+ 1 2", 0, "open", ["+ 1 2"])
        self.check("+ 1 + 2 3", 1, "open", ["+ 1 + 2 3", "+ 1 5"])
        self.check("+ 1 call 2 + 3 4", 0, "open", ["+ 1 call 2 + 3 4"])
        loop = "call fn w call w w fn w call w w"
        for most in (0, 1, 2, 17, 1000):
            self.check(loop, most, "open", [loop] * (most + 1))

    def test_wide(self):
        for count, word in ((58, "value"), (59, "value"), (60, "wide"), (61, "wide"), (100, "wide")):
            E = ("call", ("fn", "x", ("fn", "y", ("+", X, X))), function_of(count))
            behind = ("fn", "y", ("+", function_of(count), function_of(count)))
            told = [E] if word == "wide" else [E, behind]
            self.assertEqual(row_of(E, 1), (told, word))
            self.assertEqual(row_of(E, 1000), (told, word))
            self.assertEqual(row_of(E, 0), ([E], "open"))

    def test_places_at_the_bound(self):
        for more in range(-3, 4):
            right = function_of(18 + more)
            E = ("+", ("call", ("fn", "x", ("<", X, X)), function_of(50)), right)
            behind = ("+", ("<", function_of(50), function_of(50)), right)
            self.assertEqual(count_places(behind), 120 + more)
            self.assertEqual(row_of(E, 3), ([E, behind], "stuck") if more <= 0 else ([E], "wide"))
            self.assertEqual(row_of(E, 0), ([E], "open"))

    def test_a_program_of_120_places(self):
        E = ("+", SUM, tree_of(116))
        self.assertEqual(count_places(E), 120)
        self.assertEqual(row_of(E, 5), ([E, ("+", THREE, tree_of(116))], "stuck"))
        E = ("call", ID, function_of(117))
        self.assertEqual(count_places(E), 120)
        self.assertEqual(row_of(E, 5), ([E, function_of(117)], "value"))
        E = ("call", ("fn", "x", ("+", X, X)), function_of(115))
        self.assertEqual(count_places(E), 120)
        self.assertEqual(row_of(E, 5), ([E], "wide"))

    def test_open_goes_ahead_of_wide(self):
        E = ("call", ("rec", "f", "g", ("call", F, ("fn", "x", ("call", name("g"), ("call", name("g"), X))))), ID)
        told = told_row(E, 1000)
        self.assertEqual(told[1], "wide")
        last = len(told[0]) - 1
        self.assertGreater(last, 2)
        for most in range(last + 1):
            self.assertEqual(row_of(E, most), (told[0][:most + 1], "open"))
        for most in (last + 1, last + 2, 1000):
            self.assertEqual(row_of(E, most), (told[0], "wide"))

    def test_value_and_stuck_go_ahead_of_open(self):
        for E in many_programs()[:300]:
            told = told_row(E, 1000)
            last = len(told[0]) - 1
            if told[1] in ("value", "stuck"):
                self.assertEqual(row_of(E, last), told)
                self.assertEqual(row_of(E, last + 1), told)
                if last:
                    self.assertEqual(row_of(E, last - 1), (told[0][:-1], "open"))

    def test_many_steps(self):
        E = read("call rec f n if n call f - n 1 0 400")
        told = told_row(E, 1000)
        self.assertEqual(told[1], "open")
        self.assertEqual(row_of(E, 1000), told)
        self.assertEqual(len(row_of(E, 1000)[0]), 1001)
        E = read("call rec f n if n call f - n 1 0 300")
        self.assertEqual(row_of(E, 1000), told_row(E, 1000))
        self.assertEqual(row_of(E, 1000)[0][-1], ZERO)

    def test_the_list_is_the_askers_own(self):
        E = read("+ 1 + 2 3")
        kept = row_of(E, 5)[0]
        told = row_of(E, 5)[0]
        told.append(ONE)
        told[0] = ONE
        told.reverse()
        self.assertEqual(row_of(E, 5)[0], kept)
        told = row_of(ONE, 0)[0]
        told.clear()
        self.assertEqual(row_of(ONE, 0), ([ONE], "value"))
        self.assertEqual(E, read("+ 1 + 2 3"))

    def test_many(self):
        for E in many_programs():
            for most in (0, 1, 5, 60):
                self.assertEqual(row_of(E, most), told_row(E, most))


if __name__ == "__main__":
    unittest.main()
