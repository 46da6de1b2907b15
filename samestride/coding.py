"""The code of a program: its own rows, and behind them those of its functions."""

from samestride.trees import bound_names, parts_of

LEADING = ("unless", "jump")


# The rows of a function's E stand elsewhere: in its own place there is its close alone.
def count_rows(E):
    count = 0
    waiting = [E]
    while waiting:
        place = waiting.pop()
        count += 2 if place[0] == "if" else 1
        if not bound_names(place):
            waiting.extend(parts_of(place))
    return count


# What a call, an if or a working is coded as, in its order: its parts, each with whether it comes last in a function,
# and its own rows; an unless and a jump tell at first how far on they lead.
def pieces_of(E, last):
    if E[0] == "call":
        return [("part", E[1], False), ("part", E[2], False), ("row", ("hop",) if last else ("call",))]
    if E[0] == "if":
        return [
            ("part", E[1], False),
            ("row", ("unless", count_rows(E[2]) + 2)),
            ("part", E[2], last),
            ("row", ("jump", count_rows(E[3]) + 1)),
            ("part", E[3], last),
        ]
    return [("part", E[1], False), ("part", E[2], False), ("row", ("work", E[0]))]


# The rows of the program or of one function's E, and the names around there; rows are numbered within the unit as
# long as it is not known what stands ahead of it.
class Unit:
    def __init__(self, around):
        self.around = around
        self.rows = []

    def add_row(self, row):
        if row[0] in LEADING:
            self.rows.append((row[0], len(self.rows) + row[1]))
        else:
            self.rows.append(row)


# All places are walked in their order, so that units come in the order of their functions' places; with a list of what
# waits and no recursion, as an expression may be as deep as it has places.
class Coder:
    def __init__(self):
        self.units = []
        self.waiting = []

    def wait_for(self, unit, pieces):
        self.waiting.extend([(unit, piece) for piece in reversed(pieces)])

    def begin_unit(self, E, around, ended):
        unit = Unit(around)
        self.units.append(unit)
        self.wait_for(unit, [("part", E, ended == "back"), ("row", (ended,))])

    def begin_function(self, unit, E):
        names = tuple(reversed(bound_names(E)))
        unit.add_row(("close", len(self.units), names))
        self.begin_unit(parts_of(E)[0], names + unit.around, "back")

    def do_part(self, unit, E, last):
        if E[0] == "num":
            unit.add_row(E)
        elif E[0] == "name":
            unit.add_row(("fetch", unit.around.index(E[1])))
        elif bound_names(E):
            self.begin_function(unit, E)
        else:
            self.wait_for(unit, pieces_of(E, last))

    def do_all(self):
        while self.waiting:
            pair = self.waiting.pop()
            piece = pair[1]
            if piece[0] == "row":
                pair[0].add_row(piece[1])
            else:
                self.do_part(pair[0], piece[1], piece[2])


def first_rows(units):
    firsts = [0]
    for unit in units:
        firsts.append(firsts[-1] + len(unit.rows))
    return firsts


# The row with numbers of the whole code in the place of the unit's and of a unit's own number.
def numbered(row, first, firsts):
    if row[0] in LEADING:
        return (row[0], first + row[1])
    if row[0] == "close":
        return ("close", firsts[row[1]], row[2])
    return row


def code_of(E):
    coder = Coder()
    coder.begin_unit(E, (), "end")
    coder.do_all()
    firsts = first_rows(coder.units)
    code = []
    for unit in coder.units:
        first = len(code)
        code.extend([numbered(row, first, firsts) for row in unit.rows])
    return code
