"""What the tests share: the document's words once more, by plain recursion, and many programs to try them on."""

import contextlib
import itertools
import random
import signal

from samestride.texts import read

WORKINGS = ("+", "-", "*", "<")
PAIRS = ("call",) + WORKINGS
VALUES = ("num", "fn", "rec")
WIDEST = 120


def num(n):
    return ("num", n)


def name(x):
    return ("name", x)


def parts(E):
    return [part for part in E[1:] if isinstance(part, tuple)]


def chain(wrap, length, last):
    E = last
    for k in range(length):
        E = wrap(E)
    return E


# Places and names [6].

def told_places(E):
    told = [E]
    for part in parts(E):
        told.extend(told_places(part))
    return told


def count_places(E):
    return 1 + sum(count_places(part) for part in parts(E))


def told_free(E):
    if E[0] == "name":
        return {E[1]}
    told = set()
    for part in parts(E):
        told |= told_free(part)
    if E[0] == "fn":
        told -= {E[1]}
    if E[0] == "rec":
        told -= {E[1], E[2]}
    return told


# Putting in [8] to [12].

def told_filled(E, filling):
    if E[0] == "name":
        return filling.get(E[1], E)
    if E[0] == "fn":
        return E[:2] + (told_filled(E[2], {x: filling[x] for x in filling if x != E[1]}),)
    if E[0] == "rec":
        return E[:3] + (told_filled(E[3], {x: filling[x] for x in filling if x not in E[1:3]}),)
    return E[:1] + tuple(told_filled(part, filling) if isinstance(part, tuple) else part for part in E[1:])


def told_next(E):
    if E[0] in VALUES:
        return None
    if E[1][0] not in VALUES:
        return 1 + told_next(E[1])
    if E[0] != "if" and E[2][0] not in VALUES:
        return 1 + count_places(E[1]) + told_next(E[2])
    return 0


def told_work(word, m, n):
    return num({"+": (m + n) % 1000000, "-": (m - n) % 1000000, "*": m * n % 1000000, "<": int(m < n)}[word])


def told_step(E):
    if E[0] in VALUES:
        return ("value",)
    for k in (1,) if E[0] == "if" else (1, 2):
        if E[k][0] not in VALUES:
            step = told_step(E[k])
            return step if step[0] == "stuck" else ("loud", E[:k] + (step[1],) + E[k + 1:])
    if E[0] == "call" and E[1][0] == "fn":
        return ("loud", told_filled(E[1][2], {E[1][1]: E[2]}))
    if E[0] == "call" and E[1][0] == "rec":
        return ("loud", told_filled(E[1][3], {E[1][1]: E[1], E[1][2]: E[2]}))
    if E[0] == "if" and E[1][0] == "num":
        return ("loud", E[3] if E[1][1] == 0 else E[2])
    if E[0] in WORKINGS and E[1][0] == "num" and E[2][0] == "num":
        return ("loud", told_work(E[0], E[1][1], E[2][1]))
    return ("stuck",)


def told_row(E, most):
    row = [E]
    while True:
        step = told_step(row[-1])
        if step[0] != "loud":
            return (row, step[0])
        if len(row) == most + 1:
            return (row, "open")
        if count_places(step[1]) > WIDEST:
            return (row, "wide")
        row.append(step[1])


# What machines reckon with [13].

def told_bound(x, around):
    return [thing for known, thing in around if known == x][0]


def told_around(E, around):
    return told_filled(E, {x: told_thing(told_bound(x, around)) for x in told_free(E)})


def told_thing(thing):
    return thing if thing[0] == "num" else told_around(thing[1], thing[2])


# The code [24]: marks stand for rows' numbers at first, in rows that lead there and ahead of the rows that they mark.

def told_code(E):
    functions = []
    marks = itertools.count()

    def coded(E, names, last):
        if E[0] == "num":
            return [E]
        if E[0] == "name":
            return [("fetch", names.index(E[1]))]
        if E[0] in ("fn", "rec"):
            own = (E[1],) if E[0] == "fn" else (E[2], E[1])
            mark = ("mark", next(marks))
            number = len(functions)
            functions.append(None)
            functions[number] = [mark] + coded(E[-1], own + names, True) + [("back",)]
            return [("close", mark, own)]
        if E[0] == "if":
            L, J = ("mark", next(marks)), ("mark", next(marks))
            rows = coded(E[1], names, False) + [("unless", L)] + coded(E[2], names, last) + [("jump", J), L]
            return rows + coded(E[3], names, last) + [J]
        own = ("work", E[0]) if E[0] in WORKINGS else ("hop",) if last else ("call",)
        return coded(E[1], names, False) + coded(E[2], names, False) + [own]

    rows = coded(E, (), False) + [("end",)]
    for function in functions:
        rows += function
    found = {}
    for row in rows:
        if row[0] == "mark":
            found[row] = len([ahead for ahead in rows[:rows.index(row)] if ahead[0] != "mark"])
    return [tuple(found[part] if isinstance(part, tuple) and part in found else part for part in row)
            for row in rows if row[0] != "mark"]


# Programs.

# An expression without free names and of just so many places, none of them deep.
def tree_of(count, leaf=num(1)):
    if count == 1:
        return leaf
    if count % 2 == 0:
        return ("fn", "z", tree_of(count - 1, leaf))
    left = (count - 1) // 2
    left += 1 - left % 2
    return ("+", tree_of(left, leaf), tree_of(count - 1 - left, leaf))


# A function of just so many places, at least two.
def function_of(count):
    return ("fn", "y", tree_of(count - 1))


# Every form of step, functions handed on, and names that hide one another.
TEXTS = (
    "0", "999999", "fn x x", "rec f x call f x", "+ 2 3", "- 2 3", "* 2 3", "< 2 3", "< 3 3", "- 0 1",
    "+ 999999 1", "* 999999 999999", "* 1000 1000", "if 0 1 2", "if 5 1 2", "if - 1 1 + 1 1 + 2 2",
    "call fn x x 7", "call fn x 5 7", "call fn x + x x + 1 2", "call rec f x x 4", "call rec f x f 4",
    "call rec f x + x 1 - 9 2", "call 3 4", "call 3 + 1 1", "call + 1 1 fn x x", "if fn x x 1 2",
    "if rec f x x 1 2", "+ fn x x 1", "- 1 fn x x", "* fn x x fn y y", "< rec f x x 1", "+ fn x x + 1 1",
    "+ + 1 1 fn x x", "if call fn x x fn y y 1 2", "call if 1 fn x x fn x 0 8", "call if 0 fn x x fn x 0 8",
    "call rec f n if < n 1 1 * n call f - n 1 6", "call rec f n if n + n call f - n 1 0 5",
    "call rec f n if < n 2 n + call f - n 1 call f - n 2 5", "call rec f n if n call f - n 1 0 12",
    "call call rec a m fn n if m if n call call a - m 1 call call a m - n 1 call call a - m 1 1 + n 1 1 2",
    "call call call fn f fn g fn x call f call g x fn a + a 1 fn b * b 2 10",
    "call call call fn f fn g fn x call call f x call g x fn a fn b a fn a fn b a 7",
    "call call call fn a fn f fn x call call a f call f x fn f fn x call f call f x fn y + y 1 0",
    "call call call fn t call t t fn f fn x call f call f x fn x + x 1 0",
    "call call fn x fn y - x y 3 5", "call call fn x fn x x 3 5", "call call fn x fn y x 3 5",
    "call fn x call fn x + x 1 + x 10 5", "call fn x + call fn x * x x + x 1 x 5", "call fn x + x call fn x x 9 5",
    "call call call fn x fn y fn x + x y 1 2 3", "call call fn x call fn y fn x + x y + x 1 5 7",
    "call rec f x call fn f call f x fn x + x 1 5", "call call rec f x fn f + f x 3 4",
    "call call rec f x fn x if x call f 0 x 3 4", "call call rec f x rec x f if f + f 1 0 3 4",
    "call call rec f n fn g if n call call f - n 1 fn x + call g x 1 call g 0 3 fn x * x 10",
    "call fn f call fn x call f 1 50 call fn x fn y + x y 7", "call call fn f fn x call f x fn y call fn x + x y 3 4",
    "call fn k call call k 1 2 fn a fn b - a b", "call fn p call p fn a fn b b call fn a fn b fn s call call s a b 3",
    "call call fn p p fn x rec p y if y call p - y 1 x 3", "call call rec f x if x f 5 1 0", "call call rec f x if x f 5 0 0",
    "call call rec e n fn o if n call call o - n 1 e 1 6 rec o n fn e if n call call e - n 1 o 0",
    "+ call fn x + x 1 1 * call fn x x 2 - 7 call fn x 3 3", "if < call fn x x 2 3 call fn x + x 1 9 call fn y y fn x x",
    "call fn x if x fn y x fn z z 4", "call fn x if x fn y x fn z z 0", "call fn num + num 1 2",
    "call call fn name fn num + num name 1 2", "call call rec name num fn go call name num 3 4",
    "call fn w call w w fn w call w w", "call rec f n call f + n 1 0", "call rec f n + n call f + n 1 0",
    "call rec f g call f fn x call g call g x fn x x", "call rec f n fn x call f n 0",
    "call call fn f call f f fn f fn n if n + n call call f f - n 1 0 4", "call fn x fn x call x x fn y y",
    "call call rec f x call fn g g rec g x if x call f 0 g 1 0", "call fn x call fn y call fn x + x y * x y + x 1 2",
    "* + 1 2 if - 3 3 fn x x + 2 call fn y - y 4 9", "call call call call fn a fn b fn c fn d - - - a b c d 9 4 2 1",
)


def written_programs():
    return [read(text) for text in TEXTS]


# Any forms at all within one another; most of them get stuck soon.
def loose_program(chance, deep, bound):
    word = chance.choice(("leaf", "fn", "rec", "call", "call", "call", "if") + WORKINGS)
    names = ("a", "b", "f", "x")
    if deep == 0 or word == "leaf":
        if bound and chance.random() < 0.8:
            return name(chance.choice(bound))
        return num(chance.choice((0, 1, 2, 3, 999999)))
    if word == "fn" or word == "call" and chance.random() < 0.35:
        x = chance.choice(names)
        F = ("fn", x, loose_program(chance, deep - 1, bound + (x,)))
    elif word == "rec" or word == "call" and chance.random() < 0.5:
        f, x = chance.sample(names, 2)
        F = ("rec", f, x, loose_program(chance, deep - 1, bound + (f, x)))
    elif word == "call":
        F = loose_program(chance, deep - 1, bound)
    if word in ("fn", "rec"):
        return F
    if word == "call":
        return ("call", F, loose_program(chance, deep - 1, bound))
    return (word,) + tuple(loose_program(chance, deep - 1, bound) for k in range(3 if word == "if" else 2))


# A kind is "n" for numbers, or the pair of what a function takes and what comes of it. Names with their kinds are
# around, the innermost first. These programs are stuck nowhere.
def kinded_program(chance, kind, deep, around):
    known = {}
    for x, its_kind in around:
        known.setdefault(x, its_kind)
    fitting = [x for x in known if known[x] == kind]
    word = chance.choice(("leaf", "call", "call", "if", "make", "make"))
    if fitting and (deep <= 0 or word == "leaf"):
        return name(chance.choice(fitting))
    if kind == "n" and (deep <= 0 or word == "leaf"):
        return num(chance.choice((0, 1, 2, 3, 10, 999999)))
    if deep > 0 and word == "call":
        taken = chance.choice(("n", "n", ("n", "n"), (("n", "n"), "n")))
        return ("call", kinded_program(chance, (taken, kind), deep - 1, around),
                kinded_program(chance, taken, deep - 1, around))
    if deep > 0 and word == "if":
        return ("if",) + tuple(kinded_program(chance, k, deep - 1, around) for k in ("n", kind, kind))
    if kind == "n":
        return (chance.choice(WORKINGS),) + tuple(kinded_program(chance, "n", deep - 1, around) for k in range(2))
    f, x = chance.sample(("a", "b", "f", "x", "y"), 2)
    if chance.random() < 0.6:
        return ("fn", x, kinded_program(chance, kind[1], deep - 1, ((x, kind[0]),) + around))
    return ("rec", f, x, kinded_program(chance, kind[1], deep - 1, ((x, kind[0]), (f, kind)) + around))


def loose_programs(seed, count):
    chance = random.Random(seed)
    told = [loose_program(chance, 2 + k % 6, ()) for k in range(count)]
    return [E for E in told if count_places(E) <= WIDEST]


def kinded_programs(seed, count):
    chance = random.Random(seed)
    kinds = ("n", "n", "n", ("n", "n"))
    told = [kinded_program(chance, kinds[k % 4], 2 + k % 6, ()) for k in range(count)]
    return [E for E in told if count_places(E) <= WIDEST]


# Every expression of just so many places, of few names, numbers and words, whose free names are all among the bound.
def all_of_places(count, bound):
    if count == 1:
        return [num(0), num(1)] + [name(x) for x in bound]
    told = [("fn", x, E) for x in ("f", "x") for E in all_of_places(count - 1, tuple(sorted(set(bound) | {x})))]
    told += [("rec", "f", "x", E) for E in all_of_places(count - 1, ("f", "x"))]
    for split in itertools.product(range(1, count), repeat=2):
        if sum(split) == count - 1:
            for inner in itertools.product(*(all_of_places(k, bound) for k in split)):
                told += [(word,) + inner for word in ("call", "+")]
    for split in itertools.product(range(1, count), repeat=3):
        if sum(split) == count - 1:
            told += [("if",) + inner for inner in itertools.product(*(all_of_places(k, bound) for k in split))]
    return told


def small_programs():
    return [E for count in range(1, 6) for E in all_of_places(count, ())]


# Each form as deep or as long as 120 places let it be.
def great_programs():
    x, one, two = name("x"), num(1), num(2)
    own = ("fn", "x", x)
    return [
        tree_of(120), tree_of(119), function_of(120), ("+", ("+", one, two), function_of(116)),
        chain(lambda E: ("+", E, one), 59, two), chain(lambda E: ("+", one, E), 59, two),
        chain(lambda E: ("fn", "x", E), 119, x), chain(lambda E: ("rec", "f", "x", E), 119, x),
        chain(lambda E: ("call", E, one), 59, own), chain(lambda E: ("call", own, E), 39, own),
        chain(lambda E: ("if", E, one, two), 39, own), chain(lambda E: ("if", one, E, two), 39, own),
        chain(lambda E: ("if", one, two, E), 39, own),
    ]


def many_programs():
    return written_programs() + small_programs() + loose_programs(3, 1200) + kinded_programs(5, 900)


# What should come back at once fails, and does not hang, where it goes on and on.
@contextlib.contextmanager
def at_once(seconds=20):
    def too_long(number, frame):
        raise AssertionError(f"not back within {seconds} seconds")

    before = signal.signal(signal.SIGALRM, too_long)
    signal.alarm(seconds)
    try:
        yield
    finally:
        signal.alarm(0)
        signal.signal(signal.SIGALRM, before)


# The states that a machine goes through from its first one on, each with the word of the step that led to it, up to
# the one behind so many loud steps and those that follow it quietly; then the last step's answer.
def told_walk(begun, step, most):
    walk = [("begun", begun)]
    loud = 0
    while True:
        answer = step(walk[-1][1])
        loud += answer[0] == "loud"
        if len(answer) == 1 or loud > most:
            return (walk, answer)
        walk.append(answer)
