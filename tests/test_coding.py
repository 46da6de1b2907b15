"""Promise 24: the code of a program."""

import unittest

from oracle import chain, count_places, great_programs, many_programs, name, num, told_code
from samestride.coding import code_of
from samestride.texts import read, shown


# Rows as words, one row behind the other with a comma between: "close 2 x f, end".
def rows(text):
    told = []
    for row in text.split(", "):
        words = [int(word) if word.isdigit() else word for word in row.split(" ")]
        told.append(("close", words[1], tuple(words[2:])) if words[0] == "close" else tuple(words))
    return told


class Code(unittest.TestCase):
    def check(self, text, told):
        code = code_of(read(text))
        self.assertIs(type(code), list)
        self.assertEqual({type(row) for row in code}, {tuple})
        self.assertEqual(code, rows(told), text)


class Forms(Code):
    def test_a_num(self):
        self.check("0", "num 0, end")
        self.check("999999", "num 999999, end")

    def test_workings(self):
        for word in ("+", "-", "*", "<"):
            self.check(f"{word} 2 3", f"num 2, num 3, work {word}, end")
        self.check("+ - 1 2 * 3 < 4 5", "num 1, num 2, work -, num 3, num 4, num 5, work <, work *, work +, end")

    def test_a_fn(self):
        self.check("fn x x", "close 2 x, end, fetch 0, back")
        self.check("fn x 7", "close 2 x, end, num 7, back")

    def test_a_rec(self):
        self.check("rec f x x", "close 2 x f, end, fetch 0, back")
        self.check("rec f x f", "close 2 x f, end, fetch 1, back")
        self.check("rec x f x", "close 2 f x, end, fetch 1, back")

    def test_a_call(self):
        self.check("call fn x x 7", "close 4 x, num 7, call, end, fetch 0, back")
        self.check("call 1 + 2 3", "num 1, num 2, num 3, work +, call, end")
        self.check("call call 1 2 call 3 4", "num 1, num 2, call, num 3, num 4, call, call, end")

    def test_an_if(self):
        self.check("if 1 2 3", "num 1, unless 4, num 2, jump 5, num 3, end")
        self.check("if + 1 2 * 3 4 - 5 6",
                   "num 1, num 2, work +, unless 8, num 3, num 4, work *, jump 11, num 5, num 6, work -, end")
        self.check("+ 1 if 2 3 4", "num 1, num 2, unless 5, num 3, jump 6, num 4, work +, end")

    def test_names_that_are_words_of_rows(self):
        self.check("fn num num", "close 2 num, end, fetch 0, back")
        self.check("rec end back call end back", "close 2 back end, end, fetch 1, fetch 0, hop, back")


class Ifs(Code):
    def test_within_the_first_part(self):
        self.check("if if 1 2 3 4 5",
                   "num 1, unless 4, num 2, jump 5, num 3, unless 8, num 4, jump 9, num 5, end")

    def test_within_the_second_part(self):
        self.check("if 1 if 2 3 4 5",
                   "num 1, unless 8, num 2, unless 6, num 3, jump 7, num 4, jump 9, num 5, end")

    def test_within_the_third_part(self):
        self.check("if 1 2 if 3 4 5",
                   "num 1, unless 4, num 2, jump 9, num 3, unless 8, num 4, jump 9, num 5, end")

    def test_within_every_part(self):
        self.check("if if 1 2 3 if 4 5 6 if 7 8 9",
                   "num 1, unless 4, num 2, jump 5, num 3, unless 12, "
                   "num 4, unless 10, num 5, jump 11, num 6, jump 17, num 7, unless 16, num 8, jump 17, num 9, end")

    # A function counts as one row there, however many it has.
    def test_functions_within(self):
        self.check("if fn x + x x fn y 1 rec f x call f x",
                   "close 6 x, unless 4, close 10 y, jump 5, close 12 x f, end, fetch 0, fetch 0, work +, back, "
                   "num 1, back, fetch 1, fetch 0, hop, back")

    def test_in_a_function(self):
        self.check("call fn x + 1 if x 2 3 4",
                   "close 4 x, num 4, call, end, num 1, fetch 0, unless 9, num 2, jump 10, num 3, work +, back")


class Fetch(Code):
    def test_functions_within_functions(self):
        self.check("fn a fn b fn c + a * b c", "close 2 a, end, close 4 b, back, close 6 c, back, "
                   "fetch 2, fetch 1, fetch 0, work *, work +, back")

    def test_recs_within_recs(self):
        self.check("rec f a rec g b + + a f + b g", "close 2 a f, end, close 4 b g, back, "
                   "fetch 2, fetch 3, work +, fetch 0, fetch 1, work +, work +, back")

    def test_fn_and_rec_mixed(self):
        self.check("fn a rec f b fn c + + a f + b c", "close 2 a, end, close 4 b f, back, close 6 c, back, "
                   "fetch 3, fetch 2, work +, fetch 1, fetch 0, work +, work +, back")
        self.check("rec f a fn b rec g c + + a + f b + g c", "close 2 a f, end, close 4 b, back, close 6 c g, back, "
                   "fetch 3, fetch 4, fetch 2, work +, work +, fetch 1, fetch 0, work +, work +, back")

    def test_names_that_hide_one_another(self):
        self.check("fn x fn x x", "close 2 x, end, close 4 x, back, fetch 0, back")
        self.check("fn x fn y fn x + x y",
                   "close 2 x, end, close 4 y, back, close 6 x, back, fetch 0, fetch 1, work +, back")
        self.check("rec f x fn f + f x", "close 2 x f, end, close 4 f, back, fetch 0, fetch 1, work +, back")
        self.check("rec f x fn x + f x", "close 2 x f, end, close 4 x, back, fetch 2, fetch 0, work +, back")
        self.check("rec f x rec x f + f x", "close 2 x f, end, close 4 f x, back, fetch 0, fetch 1, work +, back")
        self.check("fn x rec f x rec g f + x + f g",
                   "close 2 x, end, close 4 x f, back, close 6 f g, back, "
                   "fetch 2, fetch 0, fetch 1, work +, work +, back")

    # Behind the inner function the name is the outer one's once more.
    def test_a_name_is_hidden_in_the_function_alone(self):
        self.check("fn x + call fn x x x x",
                   "close 2 x, end, close 8 x, fetch 0, call, fetch 0, work +, back, fetch 0, back")
        self.check("fn y fn x + call fn y + y x y x",
                   "close 2 y, end, close 4 x, back, close 10 y, fetch 1, call, fetch 0, work +, back, "
                   "fetch 0, fetch 1, work +, back")


class Functions(Code):
    def test_in_the_order_of_their_places(self):
        self.check("+ fn a 1 fn b 2", "close 4 a, close 6 b, work +, end, num 1, back, num 2, back")
        # One within the first stands ahead of the second.
        self.check("+ fn a fn b 1 fn c 2",
                   "close 4 a, close 8 c, work +, end, close 6 b, back, num 1, back, num 2, back")
        self.check("call fn a + fn b 1 rec f c fn d 2 fn e fn g 3",
                   "close 4 a, close 14 e, call, end, close 8 b, close 10 c f, work +, back, num 1, back, "
                   "close 12 d, back, num 2, back, close 16 g, back, num 3, back")

    def test_equal_functions_have_rows_of_their_own(self):
        E = ("fn", "x", name("x"))
        self.assertEqual(code_of(("call", E, E)), rows("close 4 x, close 6 x, call, end, fetch 0, back, fetch 0, back"))
        F = ("fn", "y", ("call", E, E))
        self.assertEqual(code_of(("call", F, F)), rows(
            "close 4 y, close 12 y, call, end, close 8 x, close 10 x, hop, back, fetch 0, back, fetch 0, back, "
            "close 16 x, close 18 x, hop, back, fetch 0, back, fetch 0, back"))

    def test_in_every_part_of_an_if(self):
        self.check("fn a if fn b a fn c c fn d a",
                   "close 2 a, end, close 8 b, unless 6, close 10 c, jump 7, close 12 d, back, "
                   "fetch 1, back, fetch 0, back, fetch 1, back")


class Hop(Code):
    def test_the_function_itself(self):
        self.check("fn x call x x", "close 2 x, end, fetch 0, fetch 0, hop, back")
        self.check("rec f x call f x", "close 2 x f, end, fetch 1, fetch 0, hop, back")

    def test_not_in_the_programs_own_rows(self):
        self.check("call 1 2", "num 1, num 2, call, end")
        self.check("if 1 call 2 3 call 4 5",
                   "num 1, unless 6, num 2, num 3, call, jump 9, num 4, num 5, call, end")
        self.check("call fn x x call fn y y 1",
                   "close 6 x, close 8 y, num 1, call, call, end, fetch 0, back, fetch 0, back")

    def test_both_ways_of_an_if_that_comes_last(self):
        self.check("fn x if x call x 1 call x 2", "close 2 x, end, fetch 0, unless 8, fetch 0, num 1, hop, jump 11, "
                   "fetch 0, num 2, hop, back")

    def test_ifs_that_come_last_within_one_another(self):
        self.check("fn x if 1 if 2 call x 3 call x 4 if 5 call x 6 call x 7",
                   "close 2 x, end, num 1, unless 14, num 2, unless 10, fetch 0, num 3, hop, jump 13, "
                   "fetch 0, num 4, hop, jump 23, num 5, unless 20, fetch 0, num 6, hop, jump 23, "
                   "fetch 0, num 7, hop, back")

    def test_not_in_the_first_part_of_an_if(self):
        self.check("fn x if call x 1 2 3", "close 2 x, end, fetch 0, num 1, call, unless 8, num 2, jump 9, num 3, back")
        self.check("fn x if if call x 1 call x 2 call x 3 4 5",
                   "close 2 x, end, fetch 0, num 1, call, unless 10, fetch 0, num 2, call, jump 13, "
                   "fetch 0, num 3, call, unless 16, num 4, jump 17, num 5, back")

    def test_not_in_a_part_of_a_working(self):
        self.check("fn x + call x 1 call x 2",
                   "close 2 x, end, fetch 0, num 1, call, fetch 0, num 2, call, work +, back")
        self.check("fn x - 1 if x call x 1 call x 2",
                   "close 2 x, end, num 1, fetch 0, unless 9, fetch 0, num 1, call, jump 12, fetch 0, num 2, call, "
                   "work -, back")

    def test_not_in_a_part_of_a_call(self):
        self.check("fn x call call x 1 call x 2",
                   "close 2 x, end, fetch 0, num 1, call, fetch 0, num 2, call, hop, back")
        self.check("fn x call if x call x 1 call x 2 if x call x 3 call x 4",
                   "close 2 x, end, fetch 0, unless 8, fetch 0, num 1, call, jump 11, fetch 0, num 2, call, "
                   "fetch 0, unless 17, fetch 0, num 3, call, jump 20, fetch 0, num 4, call, hop, back")

    # A working that comes last hides nothing of a function within it.
    def test_functions_within_have_their_own(self):
        self.check("fn x + 1 call fn y call y y x",
                   "close 2 x, end, num 1, close 8 y, fetch 0, call, work +, back, fetch 0, fetch 0, hop, back")
        self.check("call fn x if call fn y call y y x 2 3 4",
                   "close 4 x, num 4, call, end, close 12 y, fetch 0, call, unless 10, num 2, jump 11, num 3, back, "
                   "fetch 0, fetch 0, hop, back")


class Lists(Code):
    def test_the_list_is_the_askers_own(self):
        E = read("call rec f n if n call f - n 1 fn x x 3")
        kept = tuple(code_of(E))
        code = code_of(E)
        code[0] = ("num", 1)
        code.append(("end",))
        code.reverse()
        self.assertEqual(tuple(code_of(E)), kept)
        self.assertIsNot(code_of(E), code_of(E))
        code_of(E).clear()
        self.assertEqual(tuple(code_of(E)), kept)

    def test_no_answer_hangs_on_an_earlier_one(self):
        texts = ("7", "fn x x", "call fn x x 7", "if 1 2 3", "rec f x call f x")
        told = [code_of(read(text)) for text in texts]
        self.assertEqual([code_of(read(text)) for text in reversed(texts)], list(reversed(told)))

    def test_the_expression_stays(self):
        for E in many_programs()[:90]:
            kept = repr(E)
            code_of(E)
            self.assertEqual(repr(E), kept)


class Many(Code):
    def test_the_documents_words(self):
        for E in many_programs():
            self.assertEqual(code_of(E), told_code(E), shown(E))

    def test_great_programs(self):
        for E in great_programs():
            self.assertEqual(code_of(E), told_code(E))
        E = chain(lambda E: ("rec", "f", "x", ("call", name("f"), E)), 30, name("x"))
        self.assertEqual(code_of(E), told_code(E))

    # A row for each place, one more for an if, one behind the program and one behind each function's E.
    def test_how_many_rows(self):
        for E in many_programs()[:900]:
            words = [word for word in shown(E).split(" ") if word in ("if", "fn", "rec")]
            self.assertEqual(len(code_of(E)), count_places(E) + len(words) + 1)

    def test_a_num_is_its_row(self):
        for n in (0, 1, 10, 999999):
            self.assertEqual(code_of(num(n)), [num(n), ("end",)])


if __name__ == "__main__":
    unittest.main()
