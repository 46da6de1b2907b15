"""What machines reckon with, and the pen that reads it back."""

from samestride.errors import Wide
from samestride.trees import bound_names, built, front_of, parts_of

AT_ONCE = ("num", "name", "fn", "rec")


# None where no pair tells of the name, and where the first one says that the name stays.
def bound_to(name, around):
    for known, thing in around:
        if known == name:
            return thing
    return None


# Of a num, a name or a function: these need no reckoning.
def thing_of(E, around):
    if E[0] == "num":
        return E
    if E[0] == "name":
        return bound_to(E[1], around)
    return ("clo", E, around)


def body_of(W):
    return parts_of(W[1])[0]


# What is around the body of W where it is called by V.
def entered(W, V):
    if W[1][0] == "fn":
        return ((W[1][1], V),) + W[2]
    return ((W[1][2], V), (W[1][1], W)) + W[2]


# The answer of a step that is not quiet, by the state behind it.
def loud_or_stuck(state):
    if state is None:
        return ("stuck",)
    return ("loud", state)


# A thing as an expression and what is around it.
def opened(thing):
    if thing[0] == "clo":
        return thing[1:]
    return (thing, ())


def meant_by(place, around):
    if place[0] != "name":
        return None
    return bound_to(place[1], around)


# The names that a function binds stay in it, whatever is around.
def within(place, around):
    return tuple([(name, None) for name in bound_names(place)]) + around


# A pen writes expressions and counts their places, all together: what it writes is for one expression. It refuses the
# first place beyond the most, however many more would come; None is no bound.
class Pen:
    def __init__(self, most):
        self.most = most
        self.used = 0

    def take_place(self):
        if self.used == self.most:
            raise Wide("more places than an expression that is told may have")
        self.used += 1

    def joined(self, front, parts):
        self.take_place()
        return front + parts

    # Each round but that of a name takes a place, and what a name means is no name: so what is shared many times over
    # is given up as soon as it is wide.
    def filled(self, E, around):
        fronts = []
        waiting = [(E, around)]
        while waiting:
            pair = waiting.pop()
            thing = meant_by(pair[0], pair[1])
            if thing is None:
                self.take_place()
                fronts.append(front_of(pair[0]))
                inner = within(pair[0], pair[1])
                waiting.extend([(part, inner) for part in reversed(parts_of(pair[0]))])
            else:
                waiting.append(opened(thing))
        return built(fronts)

    def told(self, thing):
        pair = opened(thing)
        return self.filled(pair[0], pair[1])
