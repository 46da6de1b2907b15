"""Books of steps, and what is asked by all five."""

from samestride.around import rows_begun, rows_read, rows_step
from samestride.codes import code_begun, code_read, code_step
from samestride.coding import code_of
from samestride.dump import dump_begun, dump_read, dump_step
from samestride.errors import Wide
from samestride.graph import graph_begun, graph_read, graph_step
from samestride.terms import row_of


# Each machine but putting in, as it begins with E: its first state, its step and what reads its states back.
def machines_of(E):
    code = code_of(E)

    def step(state):
        return code_step(code, state)

    def read_back(state):
        return code_read(code, state)

    return [
        (rows_begun(E), rows_step, rows_read),
        (dump_begun(E), dump_step, dump_read),
        (graph_begun(E), graph_step, graph_read),
        (code_begun(code), step, read_back),
    ]


# For no loud step, for one and so on up to so many: how many steps are made until then.
def counted(state, step, loud):
    counts = [0]
    made = 0
    while len(counts) <= loud:
        answer = step(state)
        state = answer[1]
        made += 1
        if answer[0] == "loud":
            counts.append(made)
    return counts


def book(E, most):
    loud = len(row_of(E, most)[0]) - 1
    counts = [counted(state, step, loud) for state, step, read_back in machines_of(E)]
    return list(zip(counts[0], counts[1], counts[2], counts[3], strict=True))


# None where it would be wide.
def read_or_none(read_back, state):
    try:
        return read_back(state)
    except Wide:
        return None


# The first state is read back as the program, so that is told already. Open is asked ahead of wide.
def asked_machine(E, state, step, read_back, most):
    loud = 0
    answer = step(state)
    while len(answer) == 2:
        if answer[0] == "loud":
            if loud == most:
                return ("open", loud, E)
            F = read_or_none(read_back, answer[1])
            if F is None:
                return ("wide", loud, E)
            E = F
            loud += 1
        answer = step(answer[1])
    return (answer[0], loud, E)


def asked_putting_in(E, most):
    told = row_of(E, most)
    return (told[1], len(told[0]) - 1, told[0][-1])


def asked(E, most):
    told = [asked_putting_in(E, most)]
    for state, step, read_back in machines_of(E):
        told.append(asked_machine(E, state, step, read_back, most))
    return told
