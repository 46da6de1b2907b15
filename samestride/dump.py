"""The machine of a stack with a dump."""

from samestride.terms import chosen, worked
from samestride.things import AT_ONCE, Pen, body_of, entered, loud_or_stuck, thing_of
from samestride.trees import WIDEST, places

ORDERS = ("apply", "work", "choose")


def dump_begun(E):
    return ((), (), (E,), ())


def taken_off(stack, dump):
    if not dump:
        return ("value",)
    below = dump[0]
    return ("quiet", (below[0] + stack[-1:], below[1], below[2], dump[1:]))


# What stands to do in the place of a call, an if or a working.
def taken_apart(E):
    if E[0] == "call":
        return (E[1], E[2], ("apply",))
    if E[0] == "if":
        return (E[1], ("choose", E[2], E[3]))
    return (E[1], E[2], ("work", E[0]))


def quiet_state(state):
    E = state[2][0]
    todo = state[2][1:]
    if E[0] in AT_ONCE:
        return (state[0] + (thing_of(E, state[1]),), state[1], todo, state[3])
    return (state[0], state[1], taken_apart(E) + todo, state[3])


# This and the two behind it tell the state behind a loud step, or None where it is stuck.
def applied(stack, around, todo, dump):
    W = stack[-2]
    if W[0] == "num":
        return None
    return ((), entered(W, stack[-1]), (body_of(W),), ((stack[:-2], around, todo),) + dump)


def gone_on(order, stack, around, todo, dump):
    E = chosen(stack[-1], order[1], order[2])
    if E is None:
        return None
    return (stack[:-1], around, (E,) + todo, dump)


def reckoned(order, stack, around, todo, dump):
    N = worked(order[1], stack[-2], stack[-1])
    if N is None:
        return None
    return (stack[:-2] + (N,), around, todo, dump)


def loud_step(order, stack, around, todo, dump):
    if order[0] == "apply":
        state = applied(stack, around, todo, dump)
    elif order[0] == "choose":
        state = gone_on(order, stack, around, todo, dump)
    else:
        state = reckoned(order, stack, around, todo, dump)
    return loud_or_stuck(state)


def dump_step(state):
    todo = state[2]
    if not todo:
        return taken_off(state[0], state[3])
    if todo[0][0] in ORDERS:
        return loud_step(todo[0], state[0], state[1], todo[1:], state[3])
    return ("quiet", quiet_state(state))


def do_order(pen, order, done, around):
    last = done.pop()
    if order[0] == "choose":
        done.append(pen.joined(("if",), (last, pen.filled(order[1], around), pen.filled(order[2], around))))
    elif order[0] == "apply":
        done.append(pen.joined(("call",), (done.pop(), last)))
    else:
        done.append(pen.joined((order[1],), (done.pop(), last)))


# What is left of the stack, with what the one above left put on it.
def level_read(pen, level, above):
    done = [pen.told(thing) for thing in level[0]] + above
    for item in level[2]:
        if item[0] in ORDERS:
            do_order(pen, item, done, level[1])
        else:
            done.append(pen.filled(item, level[1]))
    return done


def dump_read(state):
    pen = Pen(WIDEST)
    done = level_read(pen, state, [])
    for level in state[3]:
        done = level_read(pen, level, done)
    return done[0]


def measure_of(todo):
    return 2 * sum([len(places(item)) for item in todo if item[0] not in ORDERS])


def dump_left(state):
    return measure_of(state[2]) + sum([measure_of(level[2]) + 1 for level in state[3]])
