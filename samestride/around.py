"""The machine of rows of what is around."""

from samestride.terms import chosen, worked
from samestride.things import AT_ONCE, Pen, body_of, entered, loud_or_stuck, thing_of
from samestride.trees import WIDEST, places


def rows_begun(E):
    return ("go", E, (), ())


# What waits for the value of the first part of E.
def left_waiting(E, around):
    if E[0] == "call":
        return ("arg", E[2], around)
    if E[0] == "if":
        return ("if", E[2], E[3], around)
    return ("right", E[0], E[2], around)


def gone(E, around, rest):
    if E[0] in AT_ONCE:
        return ("back", thing_of(E, around), rest)
    return ("go", E[1], around, (left_waiting(E, around),) + rest)


# This and the two behind it tell the state behind a loud step, or None where it is stuck.
def applied(V, W, rest):
    if W[0] == "num":
        return None
    return ("go", body_of(W), entered(W, V), rest)


def gone_on(V, wait, rest):
    E = chosen(V, wait[1], wait[2])
    if E is None:
        return None
    return ("go", E, wait[3], rest)


def reckoned(V, wait, rest):
    N = worked(wait[1], wait[2], V)
    if N is None:
        return None
    return ("back", N, rest)


def loud_step(V, wait, rest):
    if wait[0] == "fun":
        state = applied(V, wait[1], rest)
    elif wait[0] == "if":
        state = gone_on(V, wait, rest)
    else:
        state = reckoned(V, wait, rest)
    return loud_or_stuck(state)


def back_step(V, rest):
    if not rest:
        return ("value",)
    wait = rest[0]
    if wait[0] == "arg":
        return ("quiet", ("go", wait[1], wait[2], (("fun", V),) + rest[1:]))
    if wait[0] == "right":
        return ("quiet", ("go", wait[2], wait[3], (("left", wait[1], V),) + rest[1:]))
    return loud_step(V, wait, rest[1:])


def rows_step(state):
    if state[0] == "go":
        return ("quiet", gone(state[1], state[2], state[3]))
    return back_step(state[1], state[2])


def put_around(pen, E, wait):
    if wait[0] == "arg":
        return pen.joined(("call",), (E, pen.filled(wait[1], wait[2])))
    if wait[0] == "fun":
        return pen.joined(("call",), (pen.told(wait[1]), E))
    if wait[0] == "if":
        return pen.joined(("if",), (E, pen.filled(wait[1], wait[3]), pen.filled(wait[2], wait[3])))
    if wait[0] == "right":
        return pen.joined((wait[1],), (E, pen.filled(wait[2], wait[3])))
    return pen.joined((wait[1],), (pen.told(wait[2]), E))


def rows_read(state):
    pen = Pen(WIDEST)
    if state[0] == "go":
        E = pen.filled(state[1], state[2])
    else:
        E = pen.told(state[1])
    for wait in state[-1]:
        E = put_around(pen, E, wait)
    return E


def measure_of(wait):
    if wait[0] == "arg":
        return 2 * len(places(wait[1])) + 1
    if wait[0] == "right":
        return 2 * len(places(wait[2])) + 1
    return 0


def rows_left(state):
    left = sum([measure_of(wait) for wait in state[-1]])
    if state[0] == "go":
        left += 2 * len(places(state[1]))
    return left
