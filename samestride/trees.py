"""Expressions: their forms, their places and the names in them."""

# By first word: how many names it binds, and how many expressions stand behind these.
# num and name are left out, as they are no words of a text: there both are names like others.
FORMS = {
    "fn": (1, 1),
    "rec": (2, 1),
    "call": (0, 2),
    "if": (0, 3),
    "+": (0, 2),
    "-": (0, 2),
    "*": (0, 2),
    "<": (0, 2),
}

# An expression of more places than these is wide.
WIDEST = 120


def bound_names(E):
    if E[0] not in FORMS:
        return ()
    return E[1:1 + FORMS[E[0]][0]]


def parts_of(E):
    if E[0] not in FORMS:
        return ()
    return E[1 + FORMS[E[0]][0]:]


# All of the tuple that stands ahead of the expressions in it.
def front_of(E):
    if E[0] not in FORMS:
        return E
    return E[:1 + FORMS[E[0]][0]]


def count_parts(front):
    if front[0] not in FORMS:
        return 0
    return FORMS[front[0]][1]


# The expression whose places have these fronts, in their order. Walked from the last one on, so that what stands in an
# expression is there ahead of it, its first part uppermost.
def built(fronts):
    done = []
    for front in reversed(fronts):
        parts = [done.pop() for k in range(count_parts(front))]
        done.append(front + tuple(parts))
    return done[0]


# A list of what waits, and no recursion: an expression may be as deep as it has places.
def places(E):
    found = []
    waiting = [E]
    while waiting:
        place = waiting.pop()
        found.append(place)
        for part in reversed(parts_of(place)):
            waiting.append(part)
    return found


def is_wide(E):
    return len(places(E)) > WIDEST


# Level by level, for the same reason.
def free_names(E):
    found = {}
    level = [(E, ())]
    while level:
        beneath = []
        for place, bound in level:
            if place[0] == "name" and place[1] not in bound:
                found[place[1]] = True
            inner = bound + bound_names(place)
            beneath.extend([(part, inner) for part in parts_of(place)])
        level = beneath
    return sorted(found)
