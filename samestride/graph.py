"""The machine of a graph whose values are shared."""

from samestride.terms import chosen, is_value, parts_first, worked
from samestride.things import Pen
from samestride.trees import WIDEST, bound_names, built, front_of, parts_of, places


# Walked from the last place on, so that what a cell leads to has its number ahead of it.
def graph_begun(E):
    told = places(E)
    cells = []
    numbers = []
    for place in reversed(told):
        parts = [numbers.pop() for part in parts_of(place)]
        cells.append(front_of(place) + tuple(parts))
        numbers.append(len(told) - len(cells))
    cells.reverse()
    return (cells, 0)


def first_open(cells, cell):
    for number in parts_first(cell):
        if not is_value(cells[number]):
            return number
    return None


def next_cell(cells, root):
    found = root
    inner = first_open(cells, cells[root])
    while inner is not None:
        found = inner
        inner = first_open(cells, cells[found])
    return found


# A cell is asked together with the names that are meant there: those that no function in between binds.
def beneath(cells, number, names):
    cell = cells[number]
    bound = bound_names(cell)
    inner = tuple([name for name in names if name not in bound])
    return [(part, inner) for part in parts_of(cell)]


def is_meant(cell, names):
    return cell[0] == "name" and cell[1] in names


# For the cell and all that it leads to, whether one of the names is free in it. Each is asked once, however many ways
# lead to it, and there is no recursion, as cells may lie thousands deep. Where no name is left none can be free.
def free_beneath(cells, start, names):
    free = {}
    waiting = [(start, names)]
    while waiting:
        inner = [pair for pair in beneath(cells, waiting[-1][0], waiting[-1][1]) if pair[1]]
        unknown = [pair for pair in inner if pair not in free]
        if unknown:
            waiting.extend(unknown)
        else:
            pair = waiting.pop()
            free[pair] = is_meant(cells[pair[0]], pair[1]) or any([free[part] for part in inner])
    return free


# Puts copies behind the cells that it is given; meant tells by name which cell is taken in the name's place.
class Copier:
    def __init__(self, cells, start, meant):
        self.cells = cells
        self.meant = meant
        self.free = free_beneath(cells, start, tuple(meant))
        self.known = {}
        self.waiting = []

    # The number of what stands for the cell in the copy. A new cell is written when its turn comes.
    def stand_in(self, number, names):
        cell = self.cells[number]
        if is_value(cell) and not self.free[(number, names)]:
            return number
        if is_meant(cell, names):
            return self.meant[cell[1]]
        if (number, names) not in self.known:
            self.known[(number, names)] = len(self.cells)
            self.cells.append(cell)
            self.waiting.append((number, names))
        return self.known[(number, names)]

    def write_next(self):
        pair = self.waiting.pop()
        parts = [self.stand_in(part, names) for part, names in beneath(self.cells, pair[0], pair[1])]
        self.cells[self.known[pair]] = front_of(self.cells[pair[0]]) + tuple(parts)

    def copied(self, start):
        number = self.stand_in(start, tuple(self.meant))
        while self.waiting:
            self.write_next()
        return number


# This and the two behind it tell the cell that is written, or None where the step is stuck.
def called(cells, F, A):
    function = cells[F]
    if function[0] == "num":
        return None
    if function[0] == "fn":
        meant = {function[1]: A}
    else:
        meant = {function[1]: F, function[2]: A}
    start = parts_of(function)[0]
    return cells[Copier(cells, start, meant).copied(start)]


def gone_on(cells, cell):
    number = chosen(cells[cell[1]], cell[2], cell[3])
    if number is None:
        return None
    return cells[number]


def written(cells, cell):
    if cell[0] == "call":
        return called(cells, cell[1], cell[2])
    if cell[0] == "if":
        return gone_on(cells, cell)
    return worked(cell[0], cells[cell[1]], cells[cell[2]])


def graph_step(state):
    if is_value(state[0][state[1]]):
        return ("value",)
    cells = list(state[0])
    number = next_cell(cells, state[1])
    cell = written(cells, cells[number])
    if cell is None:
        return ("stuck",)
    cells[number] = cell
    return ("loud", (cells, state[1]))


def graph_read(state):
    pen = Pen(WIDEST)
    fronts = []
    waiting = [state[1]]
    while waiting:
        cell = state[0][waiting.pop()]
        pen.take_place()
        fronts.append(front_of(cell))
        waiting.extend(list(reversed(parts_of(cell))))
    return built(fronts)
