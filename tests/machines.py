"""The machines of stages 3 to 6 under one form, for the tests that ask them all alike."""

from oracle import told_walk
from samestride.around import rows_begun, rows_left, rows_read, rows_step
from samestride.codes import code_begun, code_left, code_read, code_step
from samestride.coding import code_of
from samestride.dump import dump_begun, dump_left, dump_read, dump_step
from samestride.errors import Wide
from samestride.graph import graph_begun, graph_read, graph_step


# A machine by its name; the graph has no measure, as it has no quiet steps.
class Machine:
    def __init__(self, called, begun, step, read_back, left):
        self.called = called
        self.begun = begun
        self.step = step
        self.read_back = read_back
        self.left = left

    # The states up to the one behind so many loud steps and those that follow it quietly.
    def walk(self, E, most):
        return told_walk(self.begun(E), self.step, most)

    # The first state behind so many loud steps.
    def behind(self, E, loud):
        state = self.begun(E)
        while loud:
            answer = self.step(state)
            state = answer[1]
            loud -= answer[0] == "loud"
        return state

    def is_wide(self, state):
        try:
            self.read_back(state)
        except Wide:
            return True
        return False


# The code's machine asks for the code with each state: here the two are handed on together.
def coded_begun(E):
    code = code_of(E)
    return (code, code_begun(code))


def coded_step(pair):
    answer = code_step(pair[0], pair[1])
    return answer[:1] + tuple((pair[0], state) for state in answer[1:])


def coded_read(pair):
    return code_read(pair[0], pair[1])


def coded_left(pair):
    return code_left(pair[0], pair[1])


MACHINES = (
    Machine("rows", rows_begun, rows_step, rows_read, rows_left),
    Machine("dump", dump_begun, dump_step, dump_read, dump_left),
    Machine("graph", graph_begun, graph_step, graph_read, None),
    Machine("code", coded_begun, coded_step, coded_read, coded_left),
)
