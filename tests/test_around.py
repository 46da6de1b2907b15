"""Promises 13 to 17: the machine of rows of what is around, step by step, as it is read back, and its measure."""

import unittest

from oracle import (
    WORKINGS, count_places, many_programs, name, num, told_around, told_bound, told_row, told_thing, told_walk, told_work,
)
from samestride.around import rows_begun, rows_left, rows_read, rows_step
from samestride.texts import read, shown

ONE, TWO, SEVEN = num(1), num(2), num(7)
X, Y = name("x"), name("y")
ID = ("fn", "x", X)


# The document's words once more.
def told_step(state):
    if state[0] == "go":
        word, E, around, rest = state
        if E[0] == "num":
            return ("quiet", ("back", E, rest))
        if E[0] == "name":
            return ("quiet", ("back", told_bound(E[1], around), rest))
        if E[0] in ("fn", "rec"):
            return ("quiet", ("back", ("clo", E, around), rest))
        if E[0] == "call":
            return ("quiet", ("go", E[1], around, (("arg", E[2], around),) + rest))
        if E[0] == "if":
            return ("quiet", ("go", E[1], around, (("if", E[2], E[3], around),) + rest))
        return ("quiet", ("go", E[1], around, (("right", E[0], E[2], around),) + rest))
    word, V, rest = state
    if not rest:
        return ("value",)
    first, rest = rest[0], rest[1:]
    if first[0] == "arg":
        return ("quiet", ("go", first[1], first[2], (("fun", V),) + rest))
    if first[0] == "right":
        return ("quiet", ("go", first[2], first[3], (("left", first[1], V),) + rest))
    if first[0] == "fun" and first[1][0] == "clo":
        W = first[1]
        if W[1][0] == "fn":
            return ("loud", ("go", W[1][2], ((W[1][1], V),) + W[2], rest))
        return ("loud", ("go", W[1][3], ((W[1][2], V), (W[1][1], W)) + W[2], rest))
    if first[0] == "if" and V[0] == "num":
        return ("loud", ("go", first[2] if V[1] == 0 else first[1], first[3], rest))
    if first[0] == "left" and V[0] == "num" and first[2][0] == "num":
        return ("loud", ("back", told_work(first[1], first[2][1], V[1]), rest))
    return ("stuck",)


def told_read(state):
    E = told_around(state[1], state[2]) if state[0] == "go" else told_thing(state[1])
    for wait in state[-1]:
        if wait[0] == "arg":
            E = ("call", E, told_around(wait[1], wait[2]))
        elif wait[0] == "fun":
            E = ("call", told_thing(wait[1]), E)
        elif wait[0] == "if":
            E = ("if", E, told_around(wait[1], wait[3]), told_around(wait[2], wait[3]))
        elif wait[0] == "right":
            E = (wait[1], E, told_around(wait[2], wait[3]))
        else:
            E = (wait[1], told_thing(wait[2]), E)
    return E


def told_left(state):
    left = 2 * count_places(state[1]) if state[0] == "go" else 0
    for wait in state[-1]:
        if wait[0] in ("arg", "right"):
            left += 2 * count_places(wait[1 if wait[0] == "arg" else 2]) + 1
    return left


def clo(text, around=()):
    return ("clo", read(text), around)


class ByHand(unittest.TestCase):
    # Rows of the word of the step, the state behind it, what it is read back as, and the measure.
    def check(self, E, told, last):
        state = rows_begun(E)
        self.assertEqual(state, ("go", E, (), ()))
        for number, (word, behind, text, left) in enumerate(told):
            if number:
                self.assertEqual(rows_step(state), (word, behind))
                state = rows_step(state)[1]
            self.assertEqual(state, behind)
            self.assertEqual(rows_read(state), read(text))
            self.assertEqual(rows_left(state), left)
            self.assertIs(type(rows_left(state)), int)
        self.assertEqual(rows_step(state), last)

    def test_values(self):
        self.check(SEVEN, [("", ("go", SEVEN, (), ()), "7", 2), ("quiet", ("back", SEVEN, ()), "7", 0)], ("value",))
        self.check(ID, [("", ("go", ID, (), ()), "fn x x", 4),
                        ("quiet", ("back", ("clo", ID, ()), ()), "fn x x", 0)], ("value",))
        E = read("rec f x call f x")
        self.check(E, [("", ("go", E, (), ()), "rec f x call f x", 8),
                       ("quiet", ("back", ("clo", E, ()), ()), "rec f x call f x", 0)], ("value",))

    def test_a_call_of_a_fn_and_a_working(self):
        around = (("x", SEVEN),)
        E = read("call fn x + x 1 7")
        W = clo("fn x + x 1")
        right = ("right", "+", ONE, around)
        self.check(E, [
            ("", ("go", E, (), ()), "call fn x + x 1 7", 12),
            ("quiet", ("go", E[1], (), (("arg", SEVEN, ()),)), "call fn x + x 1 7", 11),
            ("quiet", ("back", W, (("arg", SEVEN, ()),)), "call fn x + x 1 7", 3),
            ("quiet", ("go", SEVEN, (), (("fun", W),)), "call fn x + x 1 7", 2),
            ("quiet", ("back", SEVEN, (("fun", W),)), "call fn x + x 1 7", 0),
            ("loud", ("go", ("+", X, ONE), around, ()), "+ 7 1", 6),
            ("quiet", ("go", X, around, (right,)), "+ 7 1", 5),
            ("quiet", ("back", SEVEN, (right,)), "+ 7 1", 3),
            ("quiet", ("go", ONE, around, (("left", "+", SEVEN),)), "+ 7 1", 2),
            ("quiet", ("back", ONE, (("left", "+", SEVEN),)), "+ 7 1", 0),
            ("loud", ("back", num(8), ()), "8", 0),
        ], ("value",))

    def test_a_call_of_a_rec(self):
        E = read("call rec f x if x f 5 1")
        W = clo("rec f x if x f 5")
        around = (("x", ONE), ("f", W))
        inner = ("if", name("f"), num(5), around)
        behind = "if 1 rec f x if x f 5 5"
        self.check(E, [
            ("", ("go", E, (), ()), "call rec f x if x f 5 1", 14),
            ("quiet", ("go", E[1], (), (("arg", ONE, ()),)), "call rec f x if x f 5 1", 13),
            ("quiet", ("back", W, (("arg", ONE, ()),)), "call rec f x if x f 5 1", 3),
            ("quiet", ("go", ONE, (), (("fun", W),)), "call rec f x if x f 5 1", 2),
            ("quiet", ("back", ONE, (("fun", W),)), "call rec f x if x f 5 1", 0),
            ("loud", ("go", E[1][3], around, ()), behind, 8),
            ("quiet", ("go", X, around, (inner,)), behind, 2),
            ("quiet", ("back", ONE, (inner,)), behind, 0),
            ("loud", ("go", name("f"), around, ()), "rec f x if x f 5", 2),
            ("quiet", ("back", W, ()), "rec f x if x f 5", 0),
        ], ("value",))

    def test_the_first_pair_counts(self):
        E = read("call call fn x fn x + x 1 3 5")
        inner = ("fn", "x", ("+", X, ONE))
        V = ("clo", inner, (("x", num(3)),))
        walk, last = told_walk(rows_begun(E), rows_step, 9)
        states = [state for word, state in walk]
        self.assertIn(("go", inner, (("x", num(3)),), (("arg", num(5), ()),)), states)
        self.assertIn(("back", num(5), (("fun", V),)), states)
        self.assertIn(("go", ("+", X, ONE), (("x", num(5)), ("x", num(3))), ()), states)
        self.assertEqual(states[-1], ("back", num(6), ()))
        self.assertEqual(last, ("value",))

    def test_an_if(self):
        for first, text, behind in ((0, "if 0 + 1 2 fn x x", "fn x x"), (7, "if 7 + 1 2 fn x x", "+ 1 2")):
            E = read(text)
            wait = ("if", ("+", ONE, TWO), ID, ())
            states = [rows_begun(E)]
            for k in range(3):
                states.append(rows_step(states[-1])[1])
            self.assertEqual(states[1:], [("go", num(first), (), (wait,)), ("back", num(first), (wait,)),
                                          ("go", read(behind), (), ())])
            self.assertEqual([rows_left(state) for state in states],
                             [2 * count_places(E), 2, 0, 2 * count_places(read(behind))])

    def test_each_working(self):
        for word in WORKINGS:
            E = (word, ("+", ONE, TWO), ("-", SEVEN, TWO))
            states = [state for how, state in told_walk(rows_begun(E), rows_step, 9)[0]]
            self.assertEqual(states[1], ("go", ("+", ONE, TWO), (), (("right", word, ("-", SEVEN, TWO), ()),)))
            self.assertIn(("back", num(3), (("right", word, ("-", SEVEN, TWO), ()),)), states)
            self.assertIn(("go", ("-", SEVEN, TWO), (), (("left", word, num(3)),)), states)
            self.assertEqual(states[-2], ("back", num(5), (("left", word, num(3)),)))
            self.assertEqual(states[-1], ("back", told_work(word, 3, 5), ()))

    def test_what_waits_further_out_stays(self):
        E = read("+ 1 * 2 call fn x x - 9 4")
        outer = (("left", "*", TWO), ("left", "+", ONE))
        states = [state for how, state in told_walk(rows_begun(E), rows_step, 9)[0]]
        for state in (("go", E[2][2], (), outer),
                      ("back", clo("fn x x"), (("arg", read("- 9 4"), ()),) + outer),
                      ("go", read("- 9 4"), (), (("fun", clo("fn x x")),) + outer),
                      ("back", num(5), (("fun", clo("fn x x")),) + outer),
                      ("go", X, (("x", num(5)),), outer),
                      ("back", num(5), outer),
                      ("back", num(10), outer[1:]),
                      ("back", num(11), ())):
            self.assertIn(state, states)

    def test_stuck(self):
        for text in ("call 1 2", "call 1 fn x x", "if fn x x 1 2", "if rec f x x 1 2", "+ fn x x 1", "- 1 fn x x",
                     "* fn x x fn x x", "< 1 rec f x x", "+ 1 + 2 fn x x", "call fn x x call 1 2",
                     "call fn x call x 1 2", "if + 1 2 call 3 4 5", "+ 0 fn x x", "+ fn x x 0"):
            walk, last = told_walk(rows_begun(read(text)), rows_step, 9)
            self.assertEqual(last, ("stuck",), text)
            self.assertEqual(walk[-1][1][0], "back")
            self.assertNotEqual(walk[-1][1][2], ())

    def test_functions_handed_on(self):
        E = read("call fn f call fn x call f 1 50 call fn x fn y + x y 7")
        W = ("clo", read("fn x fn y + x y")[2], (("x", SEVEN),))
        states = [state for how, state in told_walk(rows_begun(E), rows_step, 99)[0]]
        self.assertIn(("go", E[1][2], (("f", W),), ()), states)
        self.assertIn(("go", E[1][2][1][2], (("x", num(50)), ("f", W)), ()), states)
        self.assertIn(("go", W[1][2], (("y", ONE), ("x", SEVEN)), ()), states)
        self.assertEqual(states[-1], ("back", num(8), ()))


class ReadBack(unittest.TestCase):
    def behind(self, text, loud):
        return told_walk(rows_begun(read(text)), rows_step, loud)[0][-1][1]

    def test_a_clo_is_filled_with_what_is_around(self):
        for text, told in (
            ("call fn x fn y + x y 7", "fn y + 7 y"),
            ("call fn x rec f y call f x 7", "rec f y call f 7"),
            ("call rec f x fn y call f y 7", "fn y call rec f x fn y call f y y"),
            ("call call fn a fn b fn y - a b 1 2", "fn y - 1 2"),
            ("call call fn a fn a fn y a 1 2", "fn y 2"),
            ("call call fn a fn b fn a + a b 1 2", "fn a + a 2"),
            ("call fn g fn y call g y call fn x fn y + x y 7", "fn y call fn y + 7 y y"),
            ("call fn x fn y fn x + x y 7", "fn y fn x + x y"),
            ("call fn x fn y call fn x x x 7", "fn y call fn x x 7"),
        ):
            state = self.behind(text, 99)
            self.assertEqual(state[0::2], ("back", ()))
            self.assertEqual(rows_read(state), read(told))

    def test_what_waits_is_filled_with_its_own_around(self):
        state = self.behind("call fn x + call fn x * x x 3 if x x 9 5", 2)
        self.assertEqual(rows_read(state), read("+ * 3 3 if 5 5 9"))
        state = self.behind("call fn x call fn y + call fn x * x x 3 call y x fn y x 5", 2)
        self.assertEqual(rows_read(state), read("+ call fn x * x x 3 call fn y 5 5"))


class Many(unittest.TestCase):
    def test_steps_readings_and_measures(self):
        for E in many_programs():
            text = shown(E)
            row, word = told_row(E, 40)
            walk, last = told_walk(rows_begun(E), rows_step, len(row) - 1)
            self.assertEqual(walk[0][1], ("go", E, (), ()))
            for at, (how, state) in enumerate(walk):
                answer = walk[at + 1] if at + 1 < len(walk) else last
                self.assertEqual(answer, told_step(state), text)
                self.assertEqual(rows_read(state), told_read(state), text)
                self.assertEqual(rows_left(state), told_left(state), text)


if __name__ == "__main__":
    unittest.main()
