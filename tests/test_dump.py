"""Promises 18 to 21: the machine of a stack with a dump, step by step, as it is read back, and its measure."""

import unittest

from oracle import (
    WORKINGS, count_places, many_programs, name, num, told_around, told_bound, told_row, told_thing, told_walk, told_work,
)
from samestride.dump import dump_begun, dump_left, dump_read, dump_step
from samestride.texts import read, shown

ONE, TWO, SEVEN = num(1), num(2), num(7)
X, Y = name("x"), name("y")
ID = ("fn", "x", X)
APPLY = ("apply",)
ORDERS = ("apply", "work", "choose")


# The document's words once more.
def told_loud(order, stack, around, todo, dump):
    V = stack[-1]
    if order[0] == "choose" and V[0] == "num":
        return ("loud", (stack[:-1], around, (order[2] if V[1] == 0 else order[1],) + todo, dump))
    if order[0] == "apply" and stack[-2][0] == "clo":
        W = stack[-2]
        inner = ((W[1][-2], V),) if W[1][0] == "fn" else ((W[1][2], V), (W[1][1], W))
        return ("loud", ((), inner + W[2], (W[1][-1],), ((stack[:-2], around, todo),) + dump))
    if order[0] == "work" and V[0] == "num" and stack[-2][0] == "num":
        return ("loud", (stack[:-2] + (told_work(order[1], stack[-2][1], V[1]),), around, todo, dump))
    return ("stuck",)


def told_step(state):
    stack, around, todo, dump = state
    if not todo and not dump:
        return ("value",)
    if not todo:
        return ("quiet", (dump[0][0] + (stack[-1],), dump[0][1], dump[0][2], dump[1:]))
    E, todo = todo[0], todo[1:]
    if E[0] in ORDERS:
        return told_loud(E, stack, around, todo, dump)
    if E[0] in ("num", "name", "fn", "rec"):
        thing = E if E[0] == "num" else told_bound(E[1], around) if E[0] == "name" else ("clo", E, around)
        return ("quiet", (stack + (thing,), around, todo, dump))
    if E[0] == "if":
        return ("quiet", (stack, around, (E[1], ("choose", E[2], E[3])) + todo, dump))
    order = ("apply",) if E[0] == "call" else ("work", E[0])
    return ("quiet", (stack, around, (E[1], E[2], order) + todo, dump))


def told_read(state):
    done = []
    for stack, around, todo in (state[:3],) + state[3]:
        done = [told_thing(thing) for thing in stack] + done
        for item in todo:
            if item[0] == "choose":
                done[-1:] = [("if", done[-1], told_around(item[1], around), told_around(item[2], around))]
            elif item[0] in ORDERS:
                done[-2:] = [("call" if item[0] == "apply" else item[1], done[-2], done[-1])]
            else:
                done.append(told_around(item, around))
    (E,) = done
    return E


def told_left(state):
    left = len(state[3])
    for stack, around, todo in (state[:3],) + state[3]:
        left += sum(2 * count_places(item) for item in todo if item[0] not in ORDERS)
    return left


def clo(text, around=()):
    return ("clo", read(text), around)


class ByHand(unittest.TestCase):
    # Rows of the word of the step, the state behind it, what it is read back as, and the measure.
    def check(self, E, told, last):
        state = dump_begun(E)
        self.assertEqual(state, ((), (), (E,), ()))
        for number, (word, behind, text, left) in enumerate(told):
            if number:
                self.assertEqual(dump_step(state), (word, behind))
                state = dump_step(state)[1]
            self.assertEqual(state, behind)
            self.assertEqual(dump_read(state), read(text))
            self.assertEqual(dump_left(state), left)
            self.assertIs(type(dump_left(state)), int)
        self.assertEqual(dump_step(state), last)

    def test_values(self):
        self.check(SEVEN, [("", ((), (), (SEVEN,), ()), "7", 2), ("quiet", ((SEVEN,), (), (), ()), "7", 0)], ("value",))
        self.check(ID, [("", ((), (), (ID,), ()), "fn x x", 4),
                        ("quiet", ((("clo", ID, ()),), (), (), ()), "fn x x", 0)], ("value",))
        E = read("rec f x call f x")
        self.check(E, [("", ((), (), (E,), ()), "rec f x call f x", 8),
                       ("quiet", ((("clo", E, ()),), (), (), ()), "rec f x call f x", 0)], ("value",))

    def test_a_call_of_a_fn_and_a_working(self):
        E = read("call fn x + x 1 7")
        W = clo("fn x + x 1")
        around = (("x", SEVEN),)
        empty = (((), (), ()),)
        self.check(E, [
            ("", ((), (), (E,), ()), "call fn x + x 1 7", 12),
            ("quiet", ((), (), (E[1], SEVEN, APPLY), ()), "call fn x + x 1 7", 10),
            ("quiet", ((W,), (), (SEVEN, APPLY), ()), "call fn x + x 1 7", 2),
            ("quiet", ((W, SEVEN), (), (APPLY,), ()), "call fn x + x 1 7", 0),
            ("loud", ((), around, (("+", X, ONE),), empty), "+ 7 1", 7),
            ("quiet", ((), around, (X, ONE, ("work", "+")), empty), "+ 7 1", 5),
            ("quiet", ((SEVEN,), around, (ONE, ("work", "+")), empty), "+ 7 1", 3),
            ("quiet", ((SEVEN, ONE), around, (("work", "+"),), empty), "+ 7 1", 1),
            ("loud", ((num(8),), around, (), empty), "8", 1),
            ("quiet", ((num(8),), (), (), ()), "8", 0),
        ], ("value",))

    def test_a_call_of_a_rec_within_a_working(self):
        E = read("+ 9 call rec f x if x 4 5 0")
        W = clo("rec f x if x 4 5")
        nine = (num(9),)
        around = (("x", num(0)), ("f", W))
        below = ((nine, (), (("work", "+"),)),)
        choose = ("choose", num(4), num(5))
        first, second = "+ 9 call rec f x if x 4 5 0", "+ 9 if 0 4 5"
        self.check(E, [
            ("", ((), (), (E,), ()), first, 18),
            ("quiet", ((), (), (num(9), E[2], ("work", "+")), ()), first, 16),
            ("quiet", (nine, (), (E[2], ("work", "+")), ()), first, 14),
            ("quiet", (nine, (), (E[2][1], num(0), APPLY, ("work", "+")), ()), first, 12),
            ("quiet", (nine + (W,), (), (num(0), APPLY, ("work", "+")), ()), first, 2),
            ("quiet", (nine + (W, num(0)), (), (APPLY, ("work", "+")), ()), first, 0),
            ("loud", ((), around, (E[2][1][3],), below), second, 9),
            ("quiet", ((), around, (X, choose), below), second, 3),
            ("quiet", ((num(0),), around, (choose,), below), second, 1),
            ("loud", ((), around, (num(5),), below), "+ 9 5", 3),
            ("quiet", ((num(5),), around, (), below), "+ 9 5", 1),
            ("quiet", (nine + (num(5),), (), (("work", "+"),), ()), "+ 9 5", 0),
            ("loud", ((num(14),), (), (), ()), "14", 0),
        ], ("value",))

    def test_the_dump_keeps_what_is_around_and_to_do(self):
        E = read("call fn x - call fn x * x x + x 1 x 5")
        states = [state for how, state in told_walk(dump_begun(E), dump_step, 99)[0]]
        five = (("x", num(5)),)
        six = (("x", num(6)),) + five
        outer = ((), (), ())
        below = ((), five, (X, ("work", "-")))
        square = ("*", X, X)
        for state in (((), five, (E[1][2],), (outer,)),
                      ((("clo", ("fn", "x", square), five), num(6)), five, (APPLY, X, ("work", "-")), (outer,)),
                      ((), six, (square,), (below, outer)),
                      ((num(36),), six, (), (below, outer)),
                      ((num(36),), five, (X, ("work", "-")), (outer,)),
                      ((num(36), num(5)), five, (("work", "-"),), (outer,)),
                      ((num(31),), five, (), (outer,)),
                      ((num(31),), (), (), ())):
            self.assertIn(state, states)

    def test_many_on_the_dump_are_taken_off_one_by_one(self):
        E = read("call rec f n if n call f - n 1 7 2")
        walk, last = told_walk(dump_begun(E), dump_step, 99)
        self.assertEqual(last, ("value",))
        self.assertEqual([len(state[3]) for how, state in walk][-4:], [3, 2, 1, 0])
        self.assertEqual([how for how, state in walk][-3:], ["quiet"] * 3)
        for how, state in walk[-4:]:
            self.assertEqual(state[0::2], ((SEVEN,), ()))
        self.assertEqual([dump_left(state) for how, state in walk][-4:], [3, 2, 1, 0])
        self.assertEqual([state[1] for how, state in walk][-1], ())

    def test_the_first_pair_counts(self):
        E = read("call call fn x fn x + x 1 3 5")
        around = (("x", num(5)), ("x", num(3)))
        states = [state for how, state in told_walk(dump_begun(E), dump_step, 99)[0]]
        self.assertIn(((), around, (("+", X, ONE),), (((), (), ()),)), states)
        self.assertIn(((num(5),), around, (ONE, ("work", "+")), (((), (), ()),)), states)
        self.assertEqual(states[-1], ((num(6),), (), (), ()))

    def test_a_rec_with_itself_around(self):
        E = read("call rec f x f 7")
        W = clo("rec f x f")
        states = [state for how, state in told_walk(dump_begun(E), dump_step, 99)[0]]
        self.assertIn(((), (("x", SEVEN), ("f", W)), (name("f"),), (((), (), ()),)), states)
        self.assertEqual(states[-1], ((W,), (), (), ()))

    def test_an_if(self):
        for first, behind in ((0, ID), (7, ("+", ONE, TWO))):
            E = ("+", SEVEN, ("if", num(first), ("+", ONE, TWO), ID))
            choose = ("choose", ("+", ONE, TWO), ID)
            states = [state for how, state in told_walk(dump_begun(E), dump_step, 1)[0]]
            self.assertIn(((SEVEN,), (), (num(first), choose, ("work", "+")), ()), states)
            self.assertIn(((SEVEN, num(first)), (), (choose, ("work", "+")), ()), states)
            self.assertIn(((SEVEN,), (), (behind, ("work", "+")), ()), states)

    def test_each_working(self):
        for word in WORKINGS:
            E = (word, ("+", ONE, TWO), ("-", SEVEN, TWO))
            states = [state for how, state in told_walk(dump_begun(E), dump_step, 9)[0]]
            self.assertEqual(states[1], ((), (), (E[1], E[2], ("work", word)), ()))
            self.assertIn(((num(3),), (), (E[2], ("work", word)), ()), states)
            self.assertEqual(states[-2], ((num(3), num(5)), (), (("work", word),), ()))
            self.assertEqual(states[-1], ((told_work(word, 3, 5),), (), (), ()))

    def test_stuck(self):
        for text in ("call 1 2", "call 1 fn x x", "if fn x x 1 2", "if rec f x x 1 2", "+ fn x x 1", "- 1 fn x x",
                     "* fn x x fn x x", "< 1 rec f x x", "+ 1 + 2 fn x x", "call fn x x call 1 2",
                     "call fn x call x 1 2", "if + 1 2 call 3 4 5", "+ 0 fn x x", "+ fn x x 0"):
            walk, last = told_walk(dump_begun(read(text)), dump_step, 9)
            self.assertEqual(last, ("stuck",), text)
            self.assertIn(walk[-1][1][2][0][0], ORDERS)


class ReadBack(unittest.TestCase):
    def behind(self, text, loud):
        return told_walk(dump_begun(read(text)), dump_step, loud)[0][-1][1]

    def test_a_clo_is_filled_with_what_is_around(self):
        for text, told in (
            ("call fn x fn y + x y 7", "fn y + 7 y"),
            ("call rec f x fn y call f y 7", "fn y call rec f x fn y call f y y"),
            ("call call fn a fn a fn y a 1 2", "fn y 2"),
            ("call call fn a fn b fn a + a b 1 2", "fn a + a 2"),
            ("call fn g fn y call g y call fn x fn y + x y 7", "fn y call fn y + 7 y y"),
            ("call fn x fn y call fn x x x 7", "fn y call fn x x 7"),
        ):
            state = self.behind(text, 99)
            self.assertEqual(state[1:], ((), (), ()))
            self.assertEqual(dump_read(state), read(told))

    def test_each_level_is_filled_with_its_own_around(self):
        state = self.behind("call fn x + call fn x * x x 3 if x x 9 5", 2)
        self.assertEqual(dump_read(state), read("+ * 3 3 if 5 5 9"))
        state = self.behind("call fn x if call fn x * x x 3 x - x 1 5", 2)
        self.assertEqual(dump_read(state), read("if * 3 3 5 - 5 1"))
        state = self.behind("call fn x call call fn x fn y * x y 3 x 5", 2)
        self.assertEqual(dump_read(state), read("call fn y * 3 y 5"))


class Many(unittest.TestCase):
    def test_steps_readings_and_measures(self):
        for E in many_programs():
            text = shown(E)
            row, word = told_row(E, 40)
            walk, last = told_walk(dump_begun(E), dump_step, len(row) - 1)
            self.assertEqual(walk[0][1], ((), (), (E,), ()))
            for at, (how, state) in enumerate(walk):
                answer = walk[at + 1] if at + 1 < len(walk) else last
                self.assertEqual(answer, told_step(state), text)
                self.assertEqual(dump_read(state), told_read(state), text)
                self.assertEqual(dump_left(state), told_left(state), text)


if __name__ == "__main__":
    unittest.main()
