"""Promises 22 and 23: the machine of a graph, its cells at first and behind each step, and what they share."""

import unittest

from oracle import WORKINGS, at_once, count_places, many_programs, name, num, told_free, told_row, told_walk, told_work
from samestride.graph import graph_begun, graph_read, graph_step
from samestride.texts import read, shown

VALUES = ("num", "fn", "rec")


# The number of each cell that the cell leads to.
def leads_to(cell):
    if cell[0] in ("num", "name"):
        return ()
    return cell[{"fn": 2, "rec": 3}.get(cell[0], 1):]


def names_of(cell):
    return cell[1:{"fn": 2, "rec": 3}.get(cell[0], 1)]


# What the cell is read back as, by plain recursion.
def told_cell(cells, number):
    cell = cells[number]
    if cell[0] in ("num", "name"):
        return cell
    return cell[:1] + names_of(cell) + tuple(told_cell(cells, inner) for inner in leads_to(cell))


def told_cells(E):
    cells = []

    def put(place):
        number = len(cells)
        cells.append(None)
        front = tuple(part for part in place if not isinstance(part, tuple))
        cells[number] = front + tuple(put(part) for part in place if isinstance(part, tuple))
        return number

    put(E)
    return cells


def next_cell(cells, number):
    cell = cells[number]
    first = () if cell[0] in VALUES else cell[1:2] if cell[0] == "if" else cell[1:]
    for inner in first:
        if cells[inner][0] not in VALUES:
            return next_cell(cells, inner)
    return number


class Graph(unittest.TestCase):
    def step(self, state):
        kept = list(state[0])
        answer = graph_step(state)
        self.assertEqual(state[0], kept)
        self.assertEqual(answer[0], "loud")
        self.assertIs(type(answer[1]), tuple)
        self.assertIs(type(answer[1][0]), list)
        self.assertIsNot(answer[1][0], state[0])
        self.check_step(state, answer[1])
        return answer[1]

    def steps(self, text, count):
        state = graph_begun(read(text))
        for k in range(count):
            state = self.step(state)
        return state

    # Just the cell of the next place is written anew.
    def check_step(self, before, after):
        cells, root = before
        self.assertEqual(after[1], root)
        at = next_cell(cells, root)
        self.assertEqual(after[0][:at] + after[0][at + 1:len(cells)], cells[:at] + cells[at + 1:])
        cell = cells[at]
        if cell[0] == "call":
            self.check_call(cells, after[0], at)
        else:
            self.assertEqual(len(after[0]), len(cells))
            if cell[0] == "if":
                self.assertEqual(after[0][at], cells[cell[3 if cells[cell[1]] == num(0) else 2]])
            else:
                self.assertEqual(after[0][at], told_work(cell[0], cells[cell[1]][1], cells[cell[2]][1]))

    def check_call(self, old, new, at):
        word, F, A = old[at]
        function = old[F]
        meant = {function[1]: A} if function[0] == "fn" else {function[1]: F, function[2]: A}
        self.assertLessEqual(len(new) - len(old), count_places(told_cell(old, F)))
        body = function[-1]
        stands = self.taken_itself(old, body, meant)
        if stands is None:
            self.check_copy(old, new, body, new[at], meant)
        else:
            self.assertEqual(new[at], old[stands])

    # The number of the cell that stands for this one; None where it is copied.
    def taken_itself(self, old, number, meant):
        cell = old[number]
        if cell[0] == "name":
            return meant.get(cell[1])
        if cell[0] == "num" or cell[0] in ("fn", "rec") and not told_free(told_cell(old, number)) & set(meant):
            return number
        return None

    def check_copy(self, old, new, number, copy, meant):
        cell = old[number]
        self.assertEqual(copy[:1] + names_of(copy), cell[:1] + names_of(cell))
        if cell[0] == "name":
            self.assertEqual(copy, cell)
        inner = {x: meant[x] for x in meant if x not in names_of(cell)}
        self.assertEqual(len(leads_to(copy)), len(leads_to(cell)))
        for part, found in zip(leads_to(cell), leads_to(copy)):
            stands = self.taken_itself(old, part, inner)
            if stands is None:
                self.assertGreaterEqual(found, len(old))
                self.check_copy(old, new, part, new[found], inner)
            else:
                self.assertEqual(found, stands)


class ByHand(Graph):
    def test_cells_at_first(self):
        for text, cells in (
            ("7", [("num", 7)]),
            ("fn x x", [("fn", "x", 1), ("name", "x")]),
            ("rec f x call f x", [("rec", "f", "x", 1), ("call", 2, 3), ("name", "f"), ("name", "x")]),
            ("+ 1 2", [("+", 1, 2), ("num", 1), ("num", 2)]),
            ("if 0 1 2", [("if", 1, 2, 3), ("num", 0), ("num", 1), ("num", 2)]),
            ("call fn x + x 1 - 7 7", [("call", 1, 5), ("fn", "x", 2), ("+", 3, 4), ("name", "x"), ("num", 1),
                                       ("-", 6, 7), ("num", 7), ("num", 7)]),
            ("if < 1 2 * 3 4 fn num num", [("if", 1, 4, 7), ("<", 2, 3), ("num", 1), ("num", 2), ("*", 5, 6), ("num", 3),
                                           ("num", 4), ("fn", "num", 8), ("name", "num")]),
        ):
            state = graph_begun(read(text))
            self.assertEqual(state, (cells, 0))
            self.assertIs(type(state), tuple)
            self.assertIs(type(state[0]), list)

    def test_equal_places_have_cells_of_their_own(self):
        E = ("+", ("+", num(1), num(1)), ("+", num(1), num(1)))
        self.assertEqual(graph_begun(E), ([("+", 1, 4), ("+", 2, 3), num(1), num(1), ("+", 5, 6), num(1), num(1)], 0))
        state = self.step(graph_begun(E))
        self.assertEqual(graph_read(state), ("+", num(2), ("+", num(1), num(1))))

    def test_values_end(self):
        for text in ("0", "7", "fn x x", "rec f x call f x", "fn x call 1 2"):
            self.assertEqual(graph_step(graph_begun(read(text))), ("value",))

    def test_a_working(self):
        for word in WORKINGS:
            for first, second in ((2, 3), (3, 2), (2, 2), (0, 999999), (999999, 999999)):
                state = graph_begun((word, num(first), num(second)))
                behind = graph_step(state)
                self.assertEqual(behind, ("loud", ([told_work(word, first, second), num(first), num(second)], 0)))
                self.assertEqual(graph_step(behind[1]), ("value",))

    def test_a_working_within(self):
        state = graph_begun(read("+ 1 * 2 3"))
        self.assertEqual(graph_step(state),
                         ("loud", ([("+", 1, 2), num(1), num(6), num(2), num(3)], 0)))
        self.assertEqual(state, ([("+", 1, 2), num(1), ("*", 3, 4), num(2), num(3)], 0))

    def test_an_if(self):
        state = graph_begun(read("if 0 fn x x + 1 2"))
        cells = [("if", 1, 2, 4), num(0), ("fn", "x", 3), name("x"), ("+", 5, 6), num(1), num(2)]
        self.assertEqual(state, (cells, 0))
        self.assertEqual(graph_step(state), ("loud", ([("+", 5, 6)] + cells[1:], 0)))
        state = graph_begun(read("if 9 fn x x + 1 2"))
        cells[1] = num(9)
        self.assertEqual(graph_step(state), ("loud", ([("fn", "x", 3)] + cells[1:], 0)))

    def test_a_call_copies_the_body(self):
        state = self.steps("call fn x + x 1 7", 1)
        self.assertEqual(state[0][:6], [("+", 5, 4), ("fn", "x", 2), ("+", 3, 4), name("x"), num(1), num(7)][:6])
        self.assertEqual(graph_read(state), read("+ 7 1"))
        self.assertEqual(graph_read((self.step(state))), num(8))

    def test_the_argument_is_shared(self):
        state = self.steps("call fn x call x x fn y y", 1)
        self.assertEqual(state[0][0], ("call", 5, 5))
        state = self.steps("call fn x + call x 1 call x 2 fn y y", 1)
        plus = state[0][0]
        self.assertEqual([state[0][inner][1] for inner in plus[1:]], [9, 9])
        self.assertEqual(state[0][9], ("fn", "y", 10))

    def test_the_function_itself_is_shared(self):
        state = self.steps("call rec f x call f f 7", 1)
        self.assertEqual(state[0][0], ("call", 1, 1))
        state = self.steps("call rec f x fn y call f x 7", 1)
        word, x, inner = state[0][0]
        self.assertEqual((word, x), ("fn", "y"))
        self.assertGreaterEqual(inner, 7)
        self.assertEqual(state[0][inner], ("call", 1, 6))

    def test_a_body_that_is_the_name(self):
        state = self.steps("call fn x x fn y y", 1)
        self.assertEqual(state[0][:5], [("fn", "y", 4), ("fn", "x", 2), name("x"), ("fn", "y", 4), name("y")])
        state = self.steps("call rec f x f 7", 1)
        self.assertEqual(state[0][0], ("rec", "f", "x", 2))
        state = self.steps("call rec f x x 7", 1)
        self.assertEqual(state[0][0], num(7))

    def test_numbers_are_taken_themselves(self):
        state = self.steps("call fn x 5 7", 1)
        self.assertEqual(state[0][0], num(5))
        state = self.steps("call fn x if 1 2 x 7", 1)
        self.assertEqual(state[0][0], ("if", 3, 4, 6))

    def test_functions_without_the_names_are_taken_themselves(self):
        state = self.steps("call fn x call fn y y x 7", 1)
        self.assertEqual(state[0][0], ("call", 3, 6))
        state = self.steps("call fn x fn x x 7", 1)
        self.assertEqual(state[0][0], ("fn", "x", 3))
        state = self.steps("call fn x call rec x y call x y x 7", 1)
        self.assertEqual(state[0][0], ("call", 3, 8))
        state = self.steps("call rec f x + call fn f f x call fn x x x 7", 1)
        left, right = state[0][0][1:]
        self.assertEqual((state[0][left], state[0][right]), (("call", 4, 11), ("call", 8, 11)))

    def test_functions_with_the_names_are_copied(self):
        state = self.steps("call fn x call fn y x x 7", 1)
        word, left, right = state[0][0]
        self.assertEqual((word, right), ("call", 6))
        self.assertGreaterEqual(left, 7)
        self.assertEqual(state[0][left], ("fn", "y", 6))
        state = self.steps("call rec f x fn y f 7", 1)
        self.assertEqual(state[0][0], ("fn", "y", 1))

    def test_a_name_that_a_function_in_between_binds_is_not_meant(self):
        state = self.steps("call rec f x fn x call f x 7", 1)
        word, x, inner = state[0][0]
        self.assertEqual((word, x), ("fn", "x"))
        call = state[0][inner]
        self.assertEqual(call[:2], ("call", 1))
        self.assertEqual(state[0][call[2]], name("x"))
        self.assertGreaterEqual(call[2], 7)

    # fn z x is free of f, and the x in it is bound in between: it is taken itself though its function is copied.
    def test_a_function_with_a_name_that_one_in_between_binds(self):
        state = self.steps("call rec f x fn x call f fn z x 7", 1)
        self.assertEqual(state[0][5], ("fn", "z", 6))
        word, x, inner = state[0][0]
        self.assertEqual(state[0][inner], ("call", 1, 5))
        state = self.steps("call rec f x rec x g call fn y call g x f 7", 1)
        self.assertEqual(state[0][4], ("fn", "y", 5))
        self.assertEqual(state[0][state[0][0][-1]], ("call", 4, 1))
        state = self.steps("call rec f x rec f g call fn y call g f x 7", 1)
        self.assertEqual(state[0][state[0][0][-1]], ("call", 4, 9))

    def test_the_next_cell(self):
        state = self.steps("+ call fn x * x x + 1 2 call fn y y 4", 5)
        self.assertEqual(graph_read(state), num(13))
        self.assertEqual(graph_step(state), ("value",))

    def test_stuck(self):
        for text, count in (("call 1 2", 0), ("call 0 fn x x", 0), ("if fn x x 1 2", 0), ("if rec f x x 1 2", 0),
                            ("+ fn x x 1", 0), ("- 1 fn x x", 0), ("* fn x x fn x x", 0), ("< 1 rec f x x", 0),
                            ("+ 1 + 2 fn x x", 0), ("call fn x call x 1 2", 1), ("if + 1 2 call 3 4 5", 2)):
            state = self.steps(text, count)
            kept = list(state[0])
            self.assertEqual(graph_step(state), ("stuck",))
            self.assertEqual(state[0], kept)

    def test_cells_that_nothing_leads_to_stay(self):
        state = self.steps("call fn x 5 fn y + y 1", 1)
        self.assertEqual(state[0][1:7], [("fn", "x", 2), num(5), ("fn", "y", 4), ("+", 5, 6), name("y"), num(1)])


class Lists(Graph):
    def test_the_list_is_the_askers_own(self):
        E = read("call fn x + x 1 7")
        kept = graph_begun(E)[0]
        told = graph_begun(E)[0]
        told.append(num(1))
        told[0] = num(1)
        self.assertEqual(graph_begun(E)[0], kept)

        state = graph_begun(E)
        first = graph_step(state)[1]
        kept = list(first[0])
        first[0].clear()
        self.assertEqual(graph_step(state)[1][0], kept)
        self.assertEqual(state, graph_begun(E))

    def test_a_later_list_is_not_an_earlier_one(self):
        for text in ("+ 1 + 2 3", "if 1 if 2 3 4 5", "call fn x call x x fn y y"):
            state = graph_begun(read(text))
            kept = list(state[0])
            behind = graph_step(state)[1]
            kept_behind = list(behind[0])
            further = graph_step(behind)[1]
            further[0][0] = num(99)
            further[0].append(num(99))
            self.assertEqual(behind[0], kept_behind)
            self.assertEqual(state[0], kept)

    def test_reading_changes_nothing(self):
        state = self.steps("call fn x + call x 1 call x 2 fn y y", 1)
        kept = list(state[0])
        self.assertEqual(graph_read(state), read("+ call fn y y 1 call fn y y 2"))
        self.assertEqual(state[0], kept)


class Many(Graph):
    def test_cells_at_first(self):
        for E in many_programs():
            self.assertEqual(graph_begun(E), (told_cells(E), 0))

    def test_steps(self):
        for E in many_programs():
            row, word = told_row(E, 40)
            state = graph_begun(E)
            for F in row[1:]:
                state = self.step(state)
                self.assertEqual(graph_read(state), F, shown(E))
                self.assertEqual(told_cell(state[0], state[1]), F)
                self.assertLessEqual(len(state[0]), 120 * len(row))
            if word in ("value", "stuck"):
                self.assertEqual(graph_step(state), (word,))
            else:
                self.check_step(state, graph_step(state)[1])

    def test_few_cells_are_put_behind(self):
        E = read("call rec d n if n call fn g fn y call g call g y call d - n 1 fn y y 40")
        with at_once():
            walk, last = told_walk(graph_begun(E), graph_step, 3000)
        self.assertEqual(last, ("value",))
        for (how, before), (word, after) in zip(walk, walk[1:]):
            self.assertLessEqual(len(after[0]) - len(before[0]), count_places(E))


if __name__ == "__main__":
    unittest.main()
