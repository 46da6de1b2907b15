"""Promises 1 and 2 over the whole: nothing that is handed in is changed, and no answer hangs on anything else."""

import os
import pathlib
import random
import subprocess
import sys
import unittest

from machines import MACHINES
from oracle import TEXTS, kinded_programs, loose_programs, written_programs
from samestride.books import asked, book
from samestride.coding import code_of
from samestride.desk import answered
from samestride.terms import next_place, put_in, row_of, stepped
from samestride.texts import read, shown
from samestride.trees import free_names, places

ROOT = pathlib.Path(__file__).resolve().parent.parent
PROGRAMS = written_programs() + loose_programs(21, 150) + kinded_programs(22, 150)


# All that can be asked of an expression, each as a function of it alone.
ASKED = (
    places, free_names, shown, next_place, stepped, code_of,
    lambda E: put_in(E, {"x": ("num", 1)}),
    lambda E: row_of(E, 12),
    lambda E: book(E, 12),
    lambda E: asked(E, 12),
) + tuple(lambda E, machine=machine: told_of(machine, E) for machine in MACHINES)


# What tells a list.
LISTS = (
    places, code_of,
    lambda E: free_names(("+", ("name", "x"), E)),
    lambda E: row_of(E, 5)[0],
    lambda E: book(E, 5),
    lambda E: asked(E, 5),
)


def told_of(machine, E):
    walk, last = machine.walk(E, 4)
    told = [repr(walk), repr(last)]
    for how, state in walk:
        told.append("wide" if machine.is_wide(state) else repr(machine.read_back(state)))
        if machine.left:
            told.append(machine.left(state))
    return told


class Whole(unittest.TestCase):
    def test_nothing_handed_in_is_changed(self):
        for E in PROGRAMS:
            kept = repr(E)
            for ask in ASKED:
                ask(E)
            self.assertEqual(repr(E), kept)

    def test_no_state_is_changed(self):
        for machine in MACHINES:
            for E in PROGRAMS[:120]:
                walk, last = machine.walk(E, 6)
                kept = repr(walk)
                for how, state in walk:
                    machine.step(state)
                    machine.is_wide(state)
                    if machine.left:
                        machine.left(state)
                self.assertEqual(repr(walk), kept)

    # In whatever order and however often it is asked.
    def test_no_answer_hangs_on_what_was_asked_before(self):
        questions = [(ask, E) for ask in ASKED for E in PROGRAMS[::5]]
        told = [repr(ask(E)) for ask, E in questions]
        order = list(range(len(questions)))
        random.Random(4).shuffle(order)
        for k in order:
            ask, E = questions[k]
            self.assertEqual(repr(ask(E)), told[k])

    def test_each_list_is_a_new_one(self):
        for E in PROGRAMS[:60]:
            for ask in LISTS:
                first = ask(E)
                kept = tuple(first)
                self.assertIs(type(first), list)
                first.append("more")
                first[0] = "other"
                first.reverse()
                self.assertEqual(tuple(ask(E)), kept)

    # An equal expression of other tuples, or of tuples that stand in several places, is answered alike.
    def test_equal_expressions_are_answered_alike(self):
        for E in PROGRAMS[:90]:
            same = self.shared(E, {})
            for ask in ASKED:
                self.assertEqual(repr(ask(same)), repr(ask(E)))

    def shared(self, E, known):
        told = tuple(self.shared(part, known) if isinstance(part, tuple) else part for part in E)
        return known.setdefault(told, told)

    # Another run, with other hashes, another folder and nothing else around.
    def test_another_run_answers_alike(self):
        script = ("import sys\nfrom samestride.desk import answered\n"
                  "for text in sys.stdin.read().split(chr(10)):\n    print(answered(text, 25))\n")
        told = "".join(answered(text, 25) + "\n" for text in TEXTS)
        for seed in ("0", "1", "77"):
            run = subprocess.run(
                [sys.executable, "-c", script], input="\n".join(TEXTS), capture_output=True, text=True, check=True,
                cwd="/", env=dict(os.environ, PYTHONPATH=str(ROOT), PYTHONHASHSEED=seed))
            self.assertEqual(run.stdout, told)

    # The way from a text to its answer by each machine alone.
    def test_five_machines_tell_one_thing(self):
        for text in TEXTS:
            E = read(text)
            row, word = row_of(E, 30)
            for machine in MACHINES:
                states = [state for how, state in machine.walk(E, len(row) - 1)[0]]
                readings = [machine.read_back(state) for state in states]
                self.assertEqual([F for k, F in enumerate(readings) if k == 0 or F != readings[k - 1]],
                                 [F for k, F in enumerate(row) if k == 0 or F != row[k - 1]])
            self.assertEqual(asked(E, 30), [(word, len(row) - 1, row[-1])] * 5)


if __name__ == "__main__":
    unittest.main()
