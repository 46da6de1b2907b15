"""Promise 6: places and their order, bound and free names; promise 2 of the lists that are told."""

import random
import unittest

from oracle import PAIRS, WORKINGS, chain, told_free, told_places
from samestride.trees import free_names, places

ONE = ("num", 1)
TWO = ("num", 2)
THREE = ("num", 3)
A = ("name", "a")
B = ("name", "b")
F = ("name", "f")
X = ("name", "x")
Y = ("name", "y")


def some_expression(chance, deep):
    word = chance.choice(("num", "name", "fn", "rec", "call", "if") + WORKINGS)
    if deep == 0 or word in ("num", "name"):
        if chance.random() < 0.3:
            return ("num", chance.randrange(1000000))
        return ("name", chance.choice(("a", "b", "x", "num", "name")))
    count = {"fn": 1, "rec": 1, "if": 3}.get(word, 2)
    inner = tuple(some_expression(chance, deep - 1) for k in range(count))
    if word == "fn":
        return ("fn", chance.choice(("a", "b", "x", "num", "name"))) + inner
    if word == "rec":
        return ("rec",) + tuple(chance.sample(("a", "b", "x", "num", "name"), 2)) + inner
    return (word,) + inner


def some_expressions():
    chance = random.Random(6)
    told = [some_expression(chance, k % 6) for k in range(1500)]
    return [E for E in told if len(told_places(E)) <= 120]


class Places(unittest.TestCase):
    def test_leaves(self):
        self.assertEqual(places(ONE), [ONE])
        self.assertEqual(places(X), [X])

    def test_functions(self):
        self.assertEqual(places(("fn", "x", ONE)), [("fn", "x", ONE), ONE])
        self.assertEqual(places(("rec", "f", "x", X)), [("rec", "f", "x", X), X])

    def test_two_parts(self):
        for word in PAIRS:
            self.assertEqual(places((word, ONE, TWO)), [(word, ONE, TWO), ONE, TWO])

    def test_if(self):
        self.assertEqual(places(("if", ONE, TWO, THREE)), [("if", ONE, TWO, THREE), ONE, TWO, THREE])

    def test_order_of_first_words(self):
        left = ("+", ONE, ("fn", "x", X))
        right = ("if", TWO, ("call", A, B), THREE)
        whole = ("call", left, right)
        self.assertEqual(
            places(whole),
            [whole, left, ONE, ("fn", "x", X), X, right, TWO, ("call", A, B), A, B, THREE],
        )

    def test_what_stands_twice_is_told_twice(self):
        self.assertEqual(places(("+", ONE, ONE)), [("+", ONE, ONE), ONE, ONE])
        twin = ("fn", "x", X)
        whole = ("call", twin, twin)
        self.assertEqual(places(whole), [whole, twin, X, twin, X])

    def test_bound_names_are_no_places(self):
        self.assertEqual(len(places(("rec", "f", "x", ("fn", "y", ONE)))), 3)

    def test_names_like_words_of_the_tuples(self):
        E = ("fn", "num", ("call", ("name", "num"), ("name", "name")))
        self.assertEqual(places(E), [E, E[2], ("name", "num"), ("name", "name")])

    def test_a_list_of_tuples(self):
        found = places(("call", ("fn", "x", X), ONE))
        self.assertIs(type(found), list)
        for place in found:
            self.assertIs(type(place), tuple)

    def test_the_list_is_the_askers_own(self):
        E = ("call", ("fn", "x", X), ONE)
        told = places(E)
        kept = list(told)
        told.append(TWO)
        told[0] = TWO
        told.reverse()
        self.assertEqual(places(E), kept)
        self.assertEqual(places(("call", ("fn", "x", X), ONE)), kept)
        self.assertEqual(E, ("call", ("fn", "x", X), ONE))
        told = places(ONE)
        told.clear()
        self.assertEqual(places(ONE), [ONE])

    def test_as_deep_as_can_be(self):
        for wrap in (
            lambda E: ("fn", "x", E),
            lambda E: ("rec", "f", "x", E),
        ):
            E = chain(wrap, 119, X)
            found = places(E)
            self.assertEqual(len(found), 120)
            self.assertEqual(found[0], E)
            self.assertEqual(found[118], wrap(X))
            self.assertEqual(found[119], X)

    def test_deep_on_one_side(self):
        left = chain(lambda E: ("+", E, ONE), 59, TWO)
        right = chain(lambda E: ("+", ONE, E), 59, TWO)
        self.assertEqual(places(left)[59:], [TWO] + [ONE] * 59)
        self.assertEqual(places(right)[1::2], [ONE] * 59)
        self.assertEqual(places(right)[-1], TWO)

    def test_many_expressions(self):
        for E in some_expressions():
            self.assertEqual(places(E), told_places(E))


class FreeNames(unittest.TestCase):
    def test_leaves(self):
        self.assertEqual(free_names(ONE), [])
        self.assertEqual(free_names(X), ["x"])

    def test_fn_binds_its_name(self):
        self.assertEqual(free_names(("fn", "x", X)), [])
        self.assertEqual(free_names(("fn", "x", Y)), ["y"])
        self.assertEqual(free_names(("fn", "x", ONE)), [])

    def test_rec_binds_both(self):
        self.assertEqual(free_names(("rec", "f", "x", ("call", F, X))), [])
        self.assertEqual(free_names(("rec", "f", "x", F)), [])
        self.assertEqual(free_names(("rec", "f", "x", X)), [])
        self.assertEqual(free_names(("rec", "f", "x", Y)), ["y"])

    def test_sorted_and_each_once(self):
        E = ("if", ("+", B, A), ("call", B, X), ("*", ("name", "ab"), A))
        self.assertEqual(free_names(E), ["a", "ab", "b", "x"])
        self.assertEqual(free_names(("call", ("name", "z"), ("call", ("name", "z"), A))), ["a", "z"])
        self.assertEqual(free_names(("call", A, A)), ["a"])

    def test_in_each_part(self):
        for word in PAIRS:
            self.assertEqual(free_names((word, A, ONE)), ["a"])
            self.assertEqual(free_names((word, ONE, A)), ["a"])
            self.assertEqual(free_names((word, B, A)), ["a", "b"])
        for E in (("if", A, ONE, ONE), ("if", ONE, A, ONE), ("if", ONE, ONE, A)):
            self.assertEqual(free_names(E), ["a"])

    def test_free_in_one_place_and_bound_in_another(self):
        for word in PAIRS:
            self.assertEqual(free_names((word, ("fn", "x", X), X)), ["x"])
            self.assertEqual(free_names((word, X, ("fn", "x", X))), ["x"])
            self.assertEqual(free_names((word, ("rec", "f", "x", F), F)), ["f"])
            self.assertEqual(free_names((word, F, ("rec", "f", "x", F))), ["f"])
        self.assertEqual(free_names(("if", ("fn", "x", X), X, ("fn", "y", Y))), ["x"])
        self.assertEqual(free_names(("if", ("fn", "x", X), ("fn", "y", Y), Y)), ["y"])

    def test_bound_from_further_out(self):
        self.assertEqual(free_names(("fn", "x", ("fn", "y", ("+", X, Y)))), [])
        self.assertEqual(free_names(("fn", "x", ("rec", "f", "y", ("call", F, X)))), [])
        self.assertEqual(free_names(("rec", "f", "x", ("fn", "y", ("call", F, ("+", X, A))))), ["a"])

    def test_bound_again_within(self):
        again = ("fn", "x", ("call", ("fn", "x", X), X))
        self.assertEqual(free_names(again), [])
        self.assertEqual(free_names(("fn", "x", ("+", ("fn", "x", ONE), X))), [])
        self.assertEqual(free_names(("fn", "x", ("+", ("rec", "x", "y", X), X))), [])
        self.assertEqual(free_names(("fn", "x", ("call", ("fn", "y", Y), Y))), ["y"])
        self.assertEqual(free_names(("call", again, X)), ["x"])

    def test_a_binding_ends_with_its_function(self):
        E = ("+", ("+", ("fn", "x", X), ("fn", "y", Y)), ("+", ("fn", "x", Y), ("fn", "y", X)))
        self.assertEqual(free_names(E), ["x", "y"])

    def test_names_like_words_of_the_tuples(self):
        self.assertEqual(free_names(("call", ("name", "num"), ("name", "name"))), ["name", "num"])
        self.assertEqual(free_names(("fn", "name", ("name", "name"))), [])
        self.assertEqual(free_names(("fn", "name", ("name", "num"))), ["num"])
        self.assertEqual(free_names(("rec", "num", "name", ("+", ("name", "num"), ("name", "name")))), [])

    def test_the_list_is_the_askers_own(self):
        E = ("fn", "x", ("call", A, B))
        told = free_names(E)
        self.assertIs(type(told), list)
        told.append("c")
        told[0] = "d"
        self.assertEqual(free_names(E), ["a", "b"])
        told = free_names(ONE)
        told.append("a")
        self.assertEqual(free_names(ONE), [])
        self.assertEqual(free_names(TWO), [])
        self.assertEqual(E, ("fn", "x", ("call", A, B)))

    def test_as_deep_as_can_be(self):
        self.assertEqual(free_names(chain(lambda E: ("fn", "x", E), 119, X)), [])
        self.assertEqual(free_names(chain(lambda E: ("fn", "x", E), 119, Y)), ["y"])
        self.assertEqual(free_names(chain(lambda E: ("rec", "f", "x", E), 119, Y)), ["y"])
        self.assertEqual(free_names(("fn", "x", chain(lambda E: ("fn", "y", E), 118, X))), [])

    def test_many_expressions(self):
        for E in some_expressions():
            self.assertEqual(free_names(E), sorted(told_free(E)))


if __name__ == "__main__":
    unittest.main()
