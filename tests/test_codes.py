"""Promises 25 to 27: the code's machine, step by step, as it is read back, and its measure."""

import unittest

from oracle import (
    WORKINGS, at_once, function_of, great_programs, many_programs, name, num, told_row, told_walk, told_work,
)
from samestride.codes import code_begun, code_left, code_read, code_step
from samestride.coding import code_of
from samestride.texts import read, shown

ZERO, SEVEN = num(0), num(7)
LOUD = ("call", "hop", "unless", "work")


# The document's words once more.
def told_loud(row, state):
    at, stack, around, pile = state
    V = stack[-1]
    if row[0] == "unless" and V[0] == "num":
        return ("loud", (row[1] if V[1] == 0 else at + 1, stack[:-1], around, pile))
    if row[0] in ("call", "hop") and stack[-2][0] == "clo":
        word, L, names, its_around = stack[-2]
        inner = (V,) if len(names) == 1 else (V, stack[-2])
        below = ((at + 1, around),) if row[0] == "call" else ()
        return ("loud", (L, stack[:-2], inner + its_around, below + pile))
    if row[0] == "work" and V[0] == "num" and stack[-2][0] == "num":
        return ("loud", (at + 1, stack[:-2] + (told_work(row[1], stack[-2][1], V[1]),), around, pile))
    return ("stuck",)


def told_step(code, state):
    at, stack, around, pile = state
    row = code[at]
    if row[0] == "end":
        return ("value",)
    if row[0] in LOUD:
        return told_loud(row, state)
    if row[0] == "jump":
        return ("quiet", (row[1], stack, around, pile))
    if row[0] == "back":
        return ("quiet", (pile[0][0], stack, pile[0][1], pile[1:]))
    return ("quiet", (at + 1, stack + (told_put(row, around),), around, pile))


def told_put(row, around):
    if row[0] == "close":
        return ("clo",) + row[1:] + (around,)
    return row if row[0] == "num" else around[row[1]]


def told_thing(code, thing):
    if thing[0] in ("num", "name"):
        return thing
    word, L, names, around = thing
    done = []
    told_rows(code, L, None, done, tuple(name(x) for x in names) + around)
    (E,) = done
    return ("fn", names[0], E) if len(names) == 1 else ("rec", names[1], names[0], E)


# Does rows up to the one where it stops, a back or the end, and tells where that is.
def told_rows(code, at, stop, done, around):
    while at != stop and code[at][0] not in ("back", "end"):
        row = code[at]
        at += 1
        if row[0] == "unless":
            ways = ([], [])
            jump = code[row[1] - 1]
            told_rows(code, at, row[1] - 1, ways[0], around)
            told_rows(code, row[1], jump[1], ways[1], around)
            done[-1:] = [("if", done[-1]) + tuple(ways[0]) + tuple(ways[1])]
            at = jump[1]
        elif row[0] == "jump":
            at = row[1]
        elif row[0] in LOUD:
            done[-2:] = [(row[1] if row[0] == "work" else "call", done[-2], done[-1])]
        else:
            done.append(told_thing(code, told_put(row, around)))
    return at


def told_read(code, state):
    at, stack, around, pile = state
    done = [told_thing(code, thing) for thing in stack]
    at = told_rows(code, at, None, done, around)
    for row, around in pile:
        at = told_rows(code, row, None, done, around)
    assert code[at] == ("end",)
    (E,) = done
    return E


def told_left(code, state):
    return sum(len(code) - row for row in (state[0],) + tuple(row for row, around in state[3]))


def walk_of(code, most):
    return told_walk(code_begun(code), lambda state: code_step(code, state), most)


class ByHand(unittest.TestCase):
    # Rows of the word of the step, the state behind it, what it is read back as, and the measure.
    def check(self, text, told, last):
        code = code_of(read(text))
        kept = list(code)
        state = code_begun(code)
        self.assertEqual(state, (0, (), (), ()))
        for number, (word, behind, shown_behind, left) in enumerate(told):
            if number:
                before = repr(state)
                answer = code_step(code, state)
                self.assertEqual(answer, (word, behind))
                self.assertEqual(repr(state), before)
                state = answer[1]
            self.assertEqual(state, behind)
            self.assertEqual(code_read(code, state), read(shown_behind))
            self.assertEqual(code_left(code, state), left)
            self.assertIs(type(code_left(code, state)), int)
        for again in range(3):
            self.assertEqual(code_step(code, state), last)
        self.assertEqual(code, kept)

    def test_values(self):
        self.check("7", [("", (0, (), (), ()), "7", 2), ("quiet", (1, (SEVEN,), (), ()), "7", 1)], ("value",))
        self.check("fn x x", [("", (0, (), (), ()), "fn x x", 4),
                              ("quiet", (1, (("clo", 2, ("x",), ()),), (), ()), "fn x x", 3)], ("value",))
        self.check("rec f x call f x", [
            ("", (0, (), (), ()), "rec f x call f x", 6),
            ("quiet", (1, (("clo", 2, ("x", "f"), ()),), (), ()), "rec f x call f x", 5)], ("value",))

    # close 4 x, num 7, call, end, fetch 0, num 1, work +, back.
    def test_a_call_of_a_fn_and_a_working(self):
        W = ("clo", 4, ("x",), ())
        first, second = "call fn x + x 1 7", "+ 7 1"
        pile = ((3, ()),)
        self.check(first, [
            ("", (0, (), (), ()), first, 8),
            ("quiet", (1, (W,), (), ()), first, 7),
            ("quiet", (2, (W, SEVEN), (), ()), first, 6),
            ("loud", (4, (), (SEVEN,), pile), second, 9),
            ("quiet", (5, (SEVEN,), (SEVEN,), pile), second, 8),
            ("quiet", (6, (SEVEN, num(1)), (SEVEN,), pile), second, 7),
            ("loud", (7, (num(8),), (SEVEN,), pile), "8", 6),
            ("quiet", (3, (num(8),), (), ()), "8", 5),
        ], ("value",))

    # num 9, close 5 x f, num 0, call, [4] work +: the end stands at 5, so the function's rows are from 6 on.
    def test_a_call_of_a_rec_within_a_working(self):
        text = "+ 9 call rec f x if x 4 5 0"
        W = ("clo", 6, ("x", "f"), ())
        nine = (num(9),)
        around, pile = (ZERO, W), ((4, ()),)
        second, third = "+ 9 if 0 4 5", "+ 9 5"
        self.check(text, [
            ("", (0, (), (), ()), text, 12),
            ("quiet", (1, nine, (), ()), text, 11),
            ("quiet", (2, nine + (W,), (), ()), text, 10),
            ("quiet", (3, nine + (W, ZERO), (), ()), text, 9),
            ("loud", (6, nine, around, pile), second, 14),
            ("quiet", (7, nine + (ZERO,), around, pile), second, 13),
            ("loud", (10, nine, around, pile), third, 10),
            ("quiet", (11, nine + (num(5),), around, pile), third, 9),
            ("quiet", (4, nine + (num(5),), (), ()), third, 8),
            ("loud", (5, (num(14),), (), ()), "14", 7),
        ], ("value",))

    # close 4 x f, num 1, call, end; 4: fetch 0, unless 12, fetch 1, fetch 0, num 1, work -, hop, jump 13, num 5, back.
    def test_a_hop_of_a_rec_and_a_jump(self):
        text = "call rec f x if x call f - x 1 5 1"
        W = ("clo", 4, ("x", "f"), ())
        one, pile = num(1), ((3, ()),)
        around = (one, W)
        inner = "call rec f x if x call f - x 1 5 "
        second = "if 1 " + inner + "- 1 1 5"
        last = "if 0 " + inner + "- 0 1 5"
        self.check(text, [
            ("", (0, (), (), ()), text, 14),
            ("quiet", (1, (W,), (), ()), text, 13),
            ("quiet", (2, (W, one), (), ()), text, 12),
            ("loud", (4, (), around, pile), second, 21),
            ("quiet", (5, (one,), around, pile), second, 20),
            ("loud", (6, (), around, pile), inner + "- 1 1", 19),
            ("quiet", (7, (W,), around, pile), inner + "- 1 1", 18),
            ("quiet", (8, (W, one), around, pile), inner + "- 1 1", 17),
            ("quiet", (9, (W, one, one), around, pile), inner + "- 1 1", 16),
            ("loud", (10, (W, ZERO), around, pile), inner + "0", 15),
            ("loud", (4, (), (ZERO, W), pile), last, 21),
            ("quiet", (5, (ZERO,), (ZERO, W), pile), last, 20),
            ("loud", (12, (), (ZERO, W), pile), "5", 13),
            ("quiet", (13, (num(5),), (ZERO, W), pile), "5", 12),
            ("quiet", (3, (num(5),), (), ()), "5", 11),
        ], ("value",))

    # close 4 x, close 8 y, call, end; 4: fetch 0, num 7, hop, back; 8: fetch 0, back.
    def test_a_hop_of_a_fn(self):
        text = "call fn x call x 7 fn y y"
        W, V = ("clo", 4, ("x",), ()), ("clo", 8, ("y",), ())
        pile = ((3, ()),)
        second = "call fn y y 7"
        self.check(text, [
            ("", (0, (), (), ()), text, 10),
            ("quiet", (1, (W,), (), ()), text, 9),
            ("quiet", (2, (W, V), (), ()), text, 8),
            ("loud", (4, (), (V,), pile), second, 13),
            ("quiet", (5, (V,), (V,), pile), second, 12),
            ("quiet", (6, (V, SEVEN), (V,), pile), second, 11),
            ("loud", (8, (), (SEVEN,), pile), "7", 9),
            ("quiet", (9, (SEVEN,), (SEVEN,), pile), "7", 8),
            ("quiet", (3, (SEVEN,), (), ()), "7", 7),
        ], ("value",))

    def test_both_ways_of_an_if_and_its_jump(self):
        self.check("if 6 1 2", [
            ("", (0, (), (), ()), "if 6 1 2", 6), ("quiet", (1, (num(6),), (), ()), "if 6 1 2", 5),
            ("loud", (2, (), (), ()), "1", 4), ("quiet", (3, (num(1),), (), ()), "1", 3),
            ("quiet", (5, (num(1),), (), ()), "1", 1)], ("value",))
        self.check("if 0 1 2", [
            ("", (0, (), (), ()), "if 0 1 2", 6), ("quiet", (1, (ZERO,), (), ()), "if 0 1 2", 5),
            ("loud", (4, (), (), ()), "2", 2), ("quiet", (5, (num(2),), (), ()), "2", 1)], ("value",))

    # Jumps that lead to jumps are gone one by one.
    def test_jumps_behind_one_another(self):
        self.check("if 1 if 2 3 4 5", [
            ("", (0, (), (), ()), "if 1 if 2 3 4 5", 10), ("quiet", (1, (num(1),), (), ()), "if 1 if 2 3 4 5", 9),
            ("loud", (2, (), (), ()), "if 2 3 4", 8), ("quiet", (3, (num(2),), (), ()), "if 2 3 4", 7),
            ("loud", (4, (), (), ()), "3", 6), ("quiet", (5, (num(3),), (), ()), "3", 5),
            ("quiet", (7, (num(3),), (), ()), "3", 3), ("quiet", (9, (num(3),), (), ()), "3", 1)], ("value",))


class Steps(unittest.TestCase):
    def states(self, text, most=99):
        return [state for how, state in walk_of(code_of(read(text)), most)[0]]

    def test_each_working(self):
        for word in WORKINGS:
            for first, second in ((3, 5), (5, 3), (4, 4), (0, 999999), (999999, 999999)):
                states = self.states(f"{word} {first} {second}")
                self.assertEqual(states[-2], (2, (num(first), num(second)), (), ()))
                self.assertEqual(states[-1], (3, (told_work(word, first, second),), (), ()))

    # V ahead, then the rec itself, then what was around the function and not around the call.
    def test_what_is_around_a_call(self):
        states = self.states("call call fn a rec f x + a x 3 5")
        W = [state for state in states if state[1] and state[1][-1][0] == "clo"][-1][1][-1]
        self.assertEqual(W[2:], (("x", "f"), (num(3),)))
        self.assertIn((W[1], (), (num(5), W, num(3)), ((5, ()),)), states)
        states = self.states("call call fn a fn x + a x 3 5")
        W = [state for state in states if state[1] and state[1][-1][0] == "clo"][-1][1][-1]
        self.assertEqual(W[2:], (("x",), (num(3),)))
        self.assertIn((W[1], (), (num(5), num(3)), ((5, ()),)), states)

    def test_the_pile_keeps_the_row_and_what_is_around(self):
        states = self.states("call fn x - call fn x * x x + x 1 x 5")
        five, six = num(5), num(6)
        outer, inner = (3, ()), (9, (five,))
        for state in ((4, (), (five,), (outer,)),
                      (8, (("clo", 12, ("x",), (five,)), six), (five,), (outer,)),
                      (12, (), (six, five), (inner, outer)),
                      (15, (num(36),), (six, five), (inner, outer)),
                      (9, (num(36),), (five,), (outer,)),
                      (10, (num(36), five), (five,), (outer,)),
                      (11, (num(31),), (five,), (outer,)),
                      (3, (num(31),), (), ())):
            self.assertIn(state, states)

    def test_stuck(self):
        for text in ("call 1 2", "call 1 fn x x", "if fn x x 1 2", "if rec f x x 1 2", "+ fn x x 1", "- 1 fn x x",
                     "* fn x x fn x x", "< 1 rec f x x", "+ 1 + 2 fn x x", "call fn x x call 1 2",
                     "call fn x call x 1 2", "if + 1 2 call 3 4 5", "+ 0 fn x x", "+ fn x x 0", "call 0 1",
                     "call rec f x call x f 2", "call fn x if x 1 2 fn y y", "call fn x + x 1 fn y y"):
            code = code_of(read(text))
            walk, last = walk_of(code, 9)
            self.assertEqual(last, ("stuck",), text)
            state = walk[-1][1]
            self.assertIn(code[state[0]][0], LOUD)
            kept = repr((code, state))
            self.assertEqual(code_step(code, state), ("stuck",))
            self.assertEqual(repr((code, state)), kept)

    def test_stuck_at_each_row(self):
        for text, word in (("call 1 2", "call"), ("call fn x call x 1 2", "hop"), ("if fn x x 1 2", "unless"),
                           ("+ 1 fn x x", "work"), ("+ fn x x 1", "work")):
            code = code_of(read(text))
            self.assertEqual(code[walk_of(code, 9)[0][-1][1][0]][0], word)

    def test_a_function_of_whatever_is_called_by_whatever(self):
        for text, last in (("call fn x x fn y y", "fn y y"), ("call fn x 1 rec f y y", "1"),
                           ("call rec f x f 7", "rec f x f"), ("call rec f x x rec g y g", "rec g y g")):
            code = code_of(read(text))
            walk, answer = walk_of(code, 9)
            self.assertEqual(answer, ("value",))
            self.assertEqual(code_read(code, walk[-1][1]), read(last))


class ReadBack(unittest.TestCase):
    def last(self, text, most=99):
        code = code_of(read(text))
        return code_read(code, walk_of(code, most)[0][-1][1])

    def test_a_clo_is_read_with_what_is_around(self):
        for text, told in (
            ("call fn x fn y + x y 7", "fn y + 7 y"),
            ("call rec f x fn y call f y 7", "fn y call rec f x fn y call f y y"),
            ("call rec f x rec g y call f call g x 7", "rec g y call rec f x rec g y call f call g x call g 7"),
            ("call call fn a fn a fn y a 1 2", "fn y 2"),
            ("call call fn a fn b fn a + a b 1 2", "fn a + a 2"),
            ("call fn g fn y call g y call fn x fn y + x y 7", "fn y call fn y + 7 y y"),
            ("call fn x fn y call fn x x x 7", "fn y call fn x x 7"),
            ("call fn x fn y fn z fn x + + x y z 7", "fn y fn z fn x + + x y z"),
            ("call fn x fn y fn z + + x y z 7", "fn y fn z + + 7 y z"),
            ("call fn x fn y if x if y x 1 if 2 y x 7", "fn y if 7 if y 7 1 if 2 y 7"),
            ("call fn x rec f y if if x y f fn z if z x f call f if f x y 7",
             "rec f y if if 7 y f fn z if z 7 f call f if f 7 y"),
        ):
            self.assertEqual(self.last(text), read(told), text)

    def test_each_of_the_pile_has_its_own_around(self):
        self.assertEqual(self.last("call fn x + call fn x * x x 3 if x x 9 5", 2), read("+ * 3 3 if 5 5 9"))
        self.assertEqual(self.last("call fn x if call fn x * x x 3 x - x 1 5", 2), read("if * 3 3 5 - 5 1"))
        self.assertEqual(self.last("call fn x call call fn x fn y * x y 3 x 5", 2), read("call fn y * 3 y 5"))

    # The state stands within a way that was chosen: the other one is no part of what is read.
    def test_within_a_way_that_was_chosen(self):
        self.assertEqual(self.last("+ 1 if 2 * 3 4 5", 1), read("+ 1 * 3 4"))
        self.assertEqual(self.last("+ 1 if 0 * 3 4 - 5 6", 1), read("+ 1 - 5 6"))
        self.assertEqual(self.last("+ 1 if 2 if 0 3 if 4 5 6 7", 1), read("+ 1 if 0 3 if 4 5 6"))
        self.assertEqual(self.last("+ 1 if 2 if 0 3 if 4 5 6 7", 2), read("+ 1 if 4 5 6"))
        self.assertEqual(self.last("+ 1 if 2 if 0 3 if 4 5 6 7", 3), read("+ 1 5"))
        self.assertEqual(self.last("call fn x if x call fn y if y x 8 x 9 6", 3), read("if 6 6 8"))

    def test_ifs_in_every_part(self):
        for text in ("if if 1 2 3 if 4 5 6 if 7 8 9", "fn x if if 1 2 x if x 5 6 if 7 8 x",
                     "+ if 1 fn x if x 2 3 4 if 5 6 fn y if 7 8 y", "if call 1 2 call 3 4 call 5 6",
                     "fn f if call f 2 if f call f 4 call f 3 call f 6"):
            code = code_of(read(text))
            for how, state in walk_of(code, 0)[0]:
                self.assertEqual(code_read(code, state), read(text))

    # Of what is around only what is fetched is read back, and as often as it is fetched.
    def test_what_is_not_fetched_is_not_read(self):
        doubled = "call rec d n if n call fn g fn y call g call g y call d - n 1 fn y y 40"
        with at_once():
            self.assertEqual(self.last("call fn x fn z z " + doubled, 3000), read("fn z z"))
            self.assertEqual(self.last("call call fn x rec f z + z 1 " + doubled + " 7", 3000), num(8))
        E = ("call", ("call", ("fn", "x", ("fn", "x", name("x"))), function_of(100)), SEVEN)
        code = code_of(E)
        for how, state in walk_of(code, 9)[0]:
            self.assertTrue(code_read(code, state) == told_read(code, state))


class Codes(unittest.TestCase):
    TEXTS = ("call rec f n if n + n call f - n 1 0 2", "call fn x fn y + x y 7", "if 1 if 2 3 4 5",
             "call call fn x fn x x 3 5", "call fn x call x 7 fn y y", "+ 9 call rec f x if x 4 5 0")

    def told(self, code):
        walk, last = walk_of(code, 99)
        return [(how, state, code_read(code, state), code_left(code, state)) for how, state in walk] + [last]

    def test_the_answers_for_one_code_behind_those_for_another(self):
        alone = {text: self.told(code_of(read(text))) for text in self.TEXTS}
        for text in self.TEXTS:
            for other in self.TEXTS:
                self.told(code_of(read(other)))
                self.assertEqual(self.told(code_of(read(text))), alone[text])

    # Both go on by turns, asked for all at each state.
    def test_two_codes_by_turns(self):
        codes = [code_of(read(text)) for text in self.TEXTS[:2]]
        alone = [self.told(code) for code in codes]
        states = [code_begun(code) for code in codes]
        for turn in range(1, 6):
            for k in (0, 1):
                how, state = code_step(codes[k], states[k])
                self.assertEqual((how, state, code_read(codes[k], state), code_left(codes[k], state)), alone[k][turn])
                states[k] = state

    # One list that holds one code and then another is asked for what it holds.
    def test_a_list_that_is_changed_by_the_asker(self):
        code = code_of(read("+ 1 2"))
        state = code_begun(code)
        self.assertEqual(code_read(code, state), read("+ 1 2"))
        code[:] = code_of(read("call fn x x 7"))
        self.assertEqual(code_read(code, state), read("call fn x x 7"))
        self.assertEqual(code_left(code, state), 6)
        self.assertEqual(code_step(code, state), ("quiet", (1, (("clo", 4, ("x",), ()),), (), ())))

    def test_an_equal_code_answers_alike(self):
        for text in self.TEXTS:
            code = code_of(read(text))
            for how, state in walk_of(code, 99)[0]:
                self.assertEqual(code_step(list(code), state), code_step(code, state))
                self.assertEqual(code_read(list(code), state), code_read(code, state))


class Many(unittest.TestCase):
    def test_steps_readings_and_measures(self):
        for E in many_programs():
            text = shown(E)
            row, word = told_row(E, 40)
            code = code_of(E)
            kept = list(code)
            walk, last = walk_of(code, len(row) - 1)
            self.assertEqual(walk[0][1], (0, (), (), ()))
            for at, (how, state) in enumerate(walk):
                answer = walk[at + 1] if at + 1 < len(walk) else last
                self.assertEqual(answer, told_step(code, state), text)
                self.assertEqual(code_read(code, state), told_read(code, state), text)
                self.assertEqual(code_left(code, state), told_left(code, state), text)
            self.assertEqual(code, kept)

    def test_great_programs(self):
        for E in great_programs():
            code = code_of(E)
            walk, last = walk_of(code, 0)
            for at, (how, state) in enumerate(walk):
                self.assertTrue(code_read(code, state) == E)
                self.assertTrue((walk + [last])[at + 1] == told_step(code, state))
                self.assertEqual(code_left(code, state), told_left(code, state))


if __name__ == "__main__":
    unittest.main()
