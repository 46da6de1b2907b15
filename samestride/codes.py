"""The machine of code with places for names."""

from samestride.terms import chosen, worked
from samestride.things import Pen, loud_or_stuck
from samestride.trees import WIDEST

CALLS = ("call", "hop")
LOUD = ("call", "hop", "unless", "work")


def code_begun(code):
    return (0, (), (), ())


# What a num, a fetch or a close puts on the stack.
def thing_of(row, around):
    if row[0] == "num":
        return row
    if row[0] == "fetch":
        return around[row[1]]
    return ("clo", row[1], row[2], around)


def quiet_state(row, state):
    if row[0] == "jump":
        return (row[1],) + state[1:]
    if row[0] == "back":
        below = state[3][0]
        return (below[0], state[1], below[1], state[3][1:])
    return (state[0] + 1, state[1] + (thing_of(row, state[2]),), state[2], state[3])


# What is around the rows of W where it is called by V. A rec has two names.
def entered(W, V):
    if len(W[2]) == 1:
        return (V,) + W[3]
    return (V, W) + W[3]


# This and the two behind it tell the state behind a loud step, or None where it is stuck.
def applied(stack, pile):
    W = stack[-2]
    if W[0] == "num":
        return None
    return (W[1], stack[:-2], entered(W, stack[-1]), pile)


def gone_on(L, state):
    at = chosen(state[1][-1], state[0] + 1, L)
    if at is None:
        return None
    return (at, state[1][:-1], state[2], state[3])


def reckoned(word, state):
    stack = state[1]
    N = worked(word, stack[-2], stack[-1])
    if N is None:
        return None
    return (state[0] + 1, stack[:-2] + (N,), state[2], state[3])


def loud_state(row, state):
    if row[0] == "call":
        return applied(state[1], ((state[0] + 1, state[2]),) + state[3])
    if row[0] == "hop":
        return applied(state[1], state[3])
    if row[0] == "unless":
        return gone_on(row[1], state)
    return reckoned(row[1], state)


def code_step(code, state):
    row = code[state[0]]
    if row[0] == "end":
        return ("value",)
    if row[0] in LOUD:
        return loud_or_stuck(loud_state(row, state))
    return ("quiet", quiet_state(row, state))


# The names tell x ahead of f, the expression f ahead of x.
def function_of(names, E):
    if len(names) == 1:
        return ("fn", names[0], E)
    return ("rec", names[1], names[0], E)


# Does rows with expressions in the place of things. What is begun and not yet ended, the innermost last, is kept in a
# list, as functions may lie thousands deep in what is around.
class Decoder:
    def __init__(self, code, state):
        self.code = code
        self.at = state[0]
        self.around = state[2]
        self.pile = state[3]
        self.pen = Pen(WIDEST)
        self.done = []
        self.begun = []

    # A function's place is taken ahead of what stands in it: so what is deep or shared many times over is given up as
    # soon as it is wide.
    def put_on(self, thing):
        self.pen.take_place()
        if thing[0] == "clo":
            self.begun.append(("function", thing[2], self.at, self.around))
            self.at = thing[1]
            self.around = tuple([("name", name) for name in thing[2]]) + thing[3]
        else:
            self.done.append(thing)

    def put_together(self, word, count):
        parts = tuple(self.done[-count:])
        self.done = self.done[:-count]
        self.done.append(self.pen.joined((word,), parts))

    def is_within_if(self):
        return len(self.begun) > 0 and self.begun[-1][0] == "if"

    def is_behind_if(self):
        return self.is_within_if() and self.begun[-1][1] == self.at

    # Within an if that was begun here the jump is the end of its T; else the T that it ends was chosen already.
    def jump(self, row):
        if not self.is_within_if():
            self.at = row[1]

    def go_back(self):
        if self.begun:
            function = self.begun.pop()
            self.done.append(function_of(function[1], self.done.pop()))
            self.at = function[2]
            self.around = function[3]
        else:
            self.at = self.pile[0][0]
            self.around = self.pile[0][1]
            self.pile = self.pile[1:]

    def do_row(self, row):
        if row[0] in CALLS:
            self.put_together("call", 2)
        elif row[0] == "work":
            self.put_together(row[1], 2)
        elif row[0] == "unless":
            self.begun.append(("if", self.code[row[1] - 1][1]))
        elif row[0] == "jump":
            self.jump(row)
        elif row[0] == "back":
            self.go_back()
        else:
            self.put_on(thing_of(row, self.around))

    def do_next(self):
        if self.is_behind_if():
            self.begun.pop()
            self.put_together("if", 3)
        else:
            self.at += 1
            self.do_row(self.code[self.at - 1])

    def put_whole(self, thing):
        self.put_on(thing)
        while self.begun:
            self.do_next()

    def do_all(self):
        while self.begun or self.code[self.at][0] != "end":
            self.do_next()
        return self.done[0]


def code_read(code, state):
    decoder = Decoder(code, state)
    for thing in state[1]:
        decoder.put_whole(thing)
    return decoder.do_all()


def code_left(code, state):
    return len(code) - state[0] + sum([len(code) - below[0] for below in state[3]])
