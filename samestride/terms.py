"""Putting in: values, fillings, the next place, a step and the row."""

from samestride.things import Pen
from samestride.trees import is_wide, parts_of, places

VALUES = ("num", "fn", "rec")
BEYOND = 1000000


# Of an expression, or of a cell that is written as one.
def is_value(E):
    return E[0] in VALUES


# An expression without free names is what is read back of it with nothing around.
def put_in(E, filling):
    around = tuple([(name, ("clo", filling[name], ())) for name in filling])
    return Pen(None).filled(E, around)


# The parts that must be values ahead of a step at E itself.
def parts_first(E):
    if E[0] == "if":
        return E[1:2]
    return parts_of(E)


def first_open(E):
    for k, part in enumerate(parts_first(E), start=1):
        if not is_value(part):
            return k
    return None


# The way to the next place of what is no value: each place on it, and where in its tuple the way goes on; None at the
# next place itself.
def way_down(E):
    way = [(E, first_open(E))]
    while way[-1][1] is not None:
        inner = way[-1][0][way[-1][1]]
        way.append((inner, first_open(inner)))
    return way


def next_place(E):
    if is_value(E):
        return None
    number = 0
    for place, inner in way_down(E)[:-1]:
        number += 1 + sum([len(places(part)) for part in place[1:inner]])
    return number


# This and the two behind it tell None where a step is stuck.
def called(F, A):
    if F[0] == "fn":
        return put_in(F[2], {F[1]: A})
    if F[0] == "rec":
        return put_in(F[3], {F[1]: F, F[2]: A})
    return None


def chosen(C, T, E):
    if C[0] != "num":
        return None
    return E if C[1] == 0 else T


def worked(word, first, second):
    if first[0] != "num" or second[0] != "num":
        return None
    if word == "<":
        return ("num", 1 if first[1] < second[1] else 0)
    if word == "+":
        return ("num", (first[1] + second[1]) % BEYOND)
    if word == "-":
        return ("num", (first[1] - second[1]) % BEYOND)
    return ("num", first[1] * second[1] % BEYOND)


def become(E):
    if E[0] == "call":
        return called(E[1], E[2])
    if E[0] == "if":
        return chosen(E[1], E[2], E[3])
    return worked(E[0], E[1], E[2])


def put_back(way, E):
    whole = E
    for place, inner in reversed(way):
        whole = place[:inner] + (whole,) + place[inner + 1:]
    return whole


def stepped(E):
    if is_value(E):
        return ("value",)
    way = way_down(E)
    F = become(way[-1][0])
    if F is None:
        return ("stuck",)
    return ("loud", put_back(way[:-1], F))


def row_of(E, most):
    row = [E]
    step = stepped(E)
    while step[0] == "loud":
        if len(row) > most:
            return (row, "open")
        if is_wide(step[1]):
            return (row, "wide")
        row.append(step[1])
        step = stepped(step[1])
    return (row, step[0])
