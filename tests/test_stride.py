"""Promise 3: each machine in step with the row by putting in; reading back where it is wide, deep or shared."""

import unittest

from machines import MACHINES, coded_begun, coded_step
from oracle import (
    at_once, count_places, function_of, great_programs, kinded_programs, many_programs, name, num, told_around, told_row,
    told_step, told_walk,
)
from samestride.errors import StrideError, Wide
from samestride.terms import row_of
from samestride.texts import read, shown

X = name("x")
ID = ("fn", "x", X)


class InStep(unittest.TestCase):
    def check(self, E, most):
        row, word = told_row(E, most)
        for machine in MACHINES:
            where = machine.called + ": " + shown(E)
            walk, last = machine.walk(E, len(row) - 1)
            self.assertEqual(machine.read_back(walk[0][1]), E, where)
            loud = 0
            for at, (how, state) in enumerate(walk):
                loud += how == "loud"
                self.assertEqual(machine.read_back(state), row[loud], where)
                self.check_step(machine, how, walk[at - 1][1], state, where)
            self.assertEqual(loud, len(row) - 1, where)
            self.check_end(machine, last, word, where)

    def check_step(self, machine, how, before, state, where):
        if machine.left:
            left = machine.left(state)
            self.assertIs(type(left), int)
            self.assertGreaterEqual(left, 0, where)
            if how == "quiet":
                self.assertLess(left, machine.left(before), where)
        else:
            self.assertNotEqual(how, "quiet", where)
        if machine.called == "rows":
            self.assertLess(len(state[-1]), count_places(machine.read_back(state)), where)
        if machine.called == "code":
            self.assertLessEqual(len(state[1][3]), count_places(machine.read_back(state)), where)

    def check_end(self, machine, last, word, where):
        if word in ("value", "stuck"):
            self.assertEqual(last, (word,), where)
        else:
            self.assertEqual((len(last), last[0]), (2, "loud"), where)
        if word == "wide":
            self.assertRaises(Wide, machine.read_back, last[1])

    def test_many_programs(self):
        for E in many_programs():
            self.check(E, 40)

    def test_long_rows(self):
        told = [E for E in kinded_programs(8, 3000) if len(told_row(E, 30)[0]) > 20]
        self.assertGreater(len(told), 40)
        for E in told[:60]:
            self.check(E, 150)

    def test_the_row_is_that_of_row_of(self):
        for text, most in (("call rec f n if < n 1 1 * n call f - n 1 6", 100), ("call 1 + 2 3", 9),
                           ("call rec f n + n call f + n 1 0", 1000), ("call rec f n call f + n 1 0", 200)):
            self.assertEqual(row_of(read(text), most), told_row(read(text), most))
            self.check(read(text), most)


# The pile of the code's machine [3].
class Pile(unittest.TestCase):
    def piles(self, text, most):
        walk = told_walk(coded_begun(read(text)), coded_step, most)[0]
        return [len(pair[1][3]) for how, pair in walk]

    def test_a_loop_whose_call_comes_last(self):
        for text in ("call rec f n call f + n 1 0", "call rec f n if n call f - n 1 7 300",
                     "call rec f n if < n 300 call f + n 1 n 0", "call rec f n if n if 1 call f - n 1 2 3 300",
                     "call rec f n if n if 0 1 call f - n 1 3 300", "call rec f n call fn x call f x n 0",
                     "call fn w call w w fn w call w w", "call call fn g rec f n if n call f - n 1 call g n fn x x 300"):
            self.assertEqual(max(self.piles(text, 900)), 1, text)

    # The inner call does not come last, but it is back ahead of the outer one.
    def test_a_loop_of_two_arguments(self):
        self.assertEqual(max(self.piles("call call rec f n fn m if n call call f - n 1 m m 300 7", 900)), 2)

    def test_a_call_of_the_program_is_on_the_pile(self):
        self.assertEqual(max(self.piles("if call fn x x 1 call fn x x 2 call fn x x 3", 9)), 1)
        self.assertEqual(max(self.piles("+ 1 2", 9)), 0)

    def test_calls_that_do_not_come_last_heap_up(self):
        for text in ("call rec f n if n + 1 call f - n 1 0 20", "call rec f n if n + call f - n 1 1 0 20",
                     "call rec f n if n call fn x x call f - n 1 0 20", "call rec f n if n if call f - n 1 2 3 0 20",
                     "call rec f n if n call call f - n 1 0 fn x x 20", "call rec f n if n + 1 if 1 call f - n 1 2 0 20"):
            self.assertGreater(max(self.piles(text, 999)), 20, text)


class Bound(unittest.TestCase):
    def test_wide_beyond_120_places(self):
        for machine in MACHINES:
            for count in range(50, 70):
                E = ("call", ("fn", "x", ("+", X, X)), function_of(count))
                behind = ("+", function_of(count), function_of(count))
                walk, last = machine.walk(E, 1)
                self.assertEqual(last, ("stuck",))
                at = [how for how, state in walk].index("loud")
                for how, state in walk[:at]:
                    self.assertEqual(machine.read_back(state), E)
                for how, state in walk[at:]:
                    if count_places(behind) > 120:
                        self.assertRaises(Wide, machine.read_back, state)
                    else:
                        self.assertEqual(machine.read_back(state), behind)

    # Just 120 places and one more, with each form of what waits around the great function.
    def test_the_bound_by_each_form(self):
        for text in ("call fn y y h", "call h 1", "+ 1 h", "+ h 1", "if 1 h 2", "if 1 2 h", "if h 1 2", "call + 1 2 h",
                     "- + 1 2 h", "if + 1 2 h 3", "if + 1 2 3 h", "* h + 1 2", "call h + 1 2", "fn y h",
                     "+ 1 call fn x + x 1 if 2 h 3", "rec f x h", "call if - 1 1 2 3 h", "- 2 - 3 h"):
            body = read("fn h " + text)[2]
            for more in (0, 1):
                hole = function_of(121 - count_places(body) + more)
                behind = told_around(body, (("h", ("clo", hole, ())),))
                self.assertEqual(count_places(behind), 120 + more)
                for machine in MACHINES:
                    walk = machine.walk(("call", ("fn", "h", body), hole), 1)[0]
                    at = [how for how, state in walk].index("loud")
                    for how, state in walk[at:]:
                        if more:
                            self.assertRaises(Wide, machine.read_back, state)
                        else:
                            self.assertEqual(machine.read_back(state), behind)

    def test_a_program_of_120_places(self):
        for machine in MACHINES:
            for E in great_programs():
                for how, state in machine.walk(E, 0)[0]:
                    self.assertTrue(machine.read_back(state) == E)
                if machine.called in ("rows", "dump"):
                    self.assertEqual(machine.left(machine.begun(E)), 2 * count_places(E))


class Asked(unittest.TestCase):
    def test_the_same_again(self):
        for machine in MACHINES:
            for E in many_programs()[:90]:
                kept = repr(E)
                walk = machine.walk(E, 5)
                told = repr(walk)
                readings = [None if machine.is_wide(state) else machine.read_back(state) for how, state in walk[0]]
                if machine.left:
                    self.assertEqual([machine.left(state) for how, state in walk[0]],
                                     [machine.left(state) for how, state in walk[0]])
                self.assertEqual([None if machine.is_wide(state) else machine.read_back(state)
                                  for how, state in machine.walk(E, 5)[0]], readings)
                self.assertEqual(repr(machine.walk(E, 5)), told)
                self.assertEqual(repr(walk), told)
                self.assertEqual(repr(E), kept)

    def test_kinds(self):
        for machine in MACHINES:
            walk, last = machine.walk(read("call rec f n if n + n call f - n 1 0 2"), 99)
            self.assertIs(type(last), tuple)
            for how, state in walk:
                self.assertIs(type(state), tuple)
                self.assertIs(type(machine.step(state)), tuple)
                self.assertIs(type(machine.read_back(state)), tuple)


# What is read back as more than anybody could write down, and what lies thousands deep.
class Great(unittest.TestCase):
    # Doubles the function fn y y so many times: what comes of it has more than 2 ** count places.
    DOUBLED = "call rec d n if n call fn g fn y call g call g y call d - n 1 fn y y "

    # Goes on to the end or for so many steps, asks all that can be asked on the way, and tells the last state.
    def run_on(self, machine, E, steps, every=1):
        state = machine.begun(E)
        wide = 0
        for k in range(steps):
            answer = machine.step(state)
            if len(answer) == 1:
                break
            state = answer[1]
            if k % every == 0:
                wide += machine.is_wide(state)
                if machine.left:
                    machine.left(state)
        return (answer, state, wide)

    def test_doubled_forty_times(self):
        for machine in MACHINES:
            with at_once():
                answer, state, wide = self.run_on(machine, read(self.DOUBLED + "40"), 3000)
                self.assertEqual(answer, ("value",))
                self.assertGreater(wide, 20)
                self.assertRaises(Wide, machine.read_back, state)

    def test_doubled_a_few_times(self):
        E = read("fn y y")
        for count in range(8):
            for machine in MACHINES:
                answer, state, wide = self.run_on(machine, read(self.DOUBLED + str(count)), 3000)
                self.assertEqual(answer, ("value",))
                if count_places(E) > 120:
                    self.assertRaises(Wide, machine.read_back, state)
                else:
                    self.assertEqual(machine.read_back(state), E)
            E = ("fn", "y", ("call", E, ("call", E, name("y"))))

    def test_doubled_and_then_called(self):
        for machine in MACHINES:
            with at_once():
                answer, state, wide = self.run_on(machine, read("call " + self.DOUBLED + "40 7"), 3000)
                self.assertEqual(len(answer), 2)
                self.assertTrue(machine.is_wide(state))

    # Another name than those in the function is looked for in what is shared; and what is shared is taken on.
    def test_doubled_and_handed_on(self):
        for text in ("call fn g call fn z + z 1 call fn w 5 g ", "call call fn g fn z if z fn q call g z 3 ",
                     "call fn g call fn z fn q call call g z g 4 ", "call fn g call rec h z call fn q z g 9 ",
                     "call call fn g rec h z call fn q fn r call q h g "):
            back = " 8" if text.startswith("call call") else ""
            for machine in MACHINES:
                with at_once():
                    answer, state, wide = self.run_on(machine, read(text + self.DOUBLED + "40" + back), 3000)
                    self.assertEqual(answer, ("value",))

    # Let a be fn x x, and each further name a function of another name that calls the one ahead twice.
    def test_doubled_by_many_names(self):
        names = "abcdefghijklm"
        E = ("fn", "z", ("+", name("z"), ("call", name(names[-1]), name("z"))))
        for k in range(len(names) - 1, 0, -1):
            ahead = name(names[k - 1])
            value = ("fn", "y" + names[k], ("call", ahead, ("call", ahead, name("y" + names[k]))))
            E = ("call", ("fn", names[k], E), value)
        E = ("call", ("call", ("fn", "a", E), ID), num(6))
        self.assertLessEqual(count_places(E), 120)
        for machine in MACHINES:
            with at_once():
                state = machine.behind(E, len(names) + 1)
                self.assertTrue(machine.is_wide(state))
                answer, state, wide = self.run_on(machine, E, 200000, every=400)
                self.assertEqual(answer, ("value",))
                self.assertEqual(machine.read_back(state), num(12))

    def test_a_thousand_and_more_workings_wait(self):
        for text, last in (("call rec f n if n + 1 call f - n 1 0 1200", 1200),
                           ("call rec f n if n + call f - n 1 1 0 1200", 1200),
                           ("call rec f n if n call fn x + x 1 call f - n 1 0 1200", 1200),
                           ("call rec f n if n if call f - n 1 2 3 0 1200", 2)):
            for machine in MACHINES:
                with at_once(300):
                    answer, state, wide = self.run_on(machine, read(text), 200000, every=50)
                    self.assertEqual(answer, ("value",))
                    self.assertGreater(wide, 50)
                    self.assertEqual(machine.read_back(state), num(last))

    def test_wide_and_back_in_step(self):
        E = read("call rec f n if n + 1 call f - n 1 0 40")
        row = [E]
        while row[-1][0] != "num":
            row.append(told_step(row[-1])[1])
        self.assertEqual(row[-1], num(40))
        for machine in MACHINES:
            walk, last = machine.walk(E, 1000)
            self.assertEqual(last, ("value",))
            loud = 0
            for how, state in walk:
                loud += how == "loud"
                if count_places(row[loud]) > 120:
                    self.assertRaises(Wide, machine.read_back, state)
                else:
                    self.assertTrue(machine.read_back(state) == row[loud])
            self.assertEqual(loud, len(row) - 1)

    def test_two_thousand_functions_one_beneath_another(self):
        made = "call rec f n if n call fn g fn y call g y call f - n 1 fn y y 2000"
        for machine in MACHINES:
            with at_once(300):
                answer, state, wide = self.run_on(machine, read(made), 100000, every=100)
                self.assertEqual(answer, ("value",))
                self.assertRaises(Wide, machine.read_back, state)
        for text, last in (("call " + made + " 7", num(7)), ("call fn g call fn z + z call g z 7 " + made, num(14)),
                           ("call fn g call rec h z if z + z call g z h 7 " + made, num(14))):
            for machine in MACHINES:
                with at_once(300):
                    answer, state, wide = self.run_on(machine, read(text), 200000, every=1000)
                    self.assertEqual(answer, ("value",))
                    self.assertEqual(machine.read_back(state), last)

    def test_stuck_far_within(self):
        for machine in MACHINES:
            with at_once(300):
                answer, state, wide = self.run_on(
                    machine, read("call rec f n if n + 1 call f - n 1 call 3 4 1200"), 100000, every=200)
                self.assertEqual(answer, ("stuck",))
                self.assertRaises(Wide, machine.read_back, state)

    def test_wide_is_a_refusal(self):
        for machine in MACHINES:
            state = machine.behind(("call", ("fn", "x", ("+", X, X)), function_of(60)), 1)
            self.assertRaises(StrideError, machine.read_back, state)


if __name__ == "__main__":
    unittest.main()
