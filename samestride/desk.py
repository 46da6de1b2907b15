"""The desk: a text and a number of steps are answered by a text."""

from samestride.books import asked, book
from samestride.texts import read, shown


def first_line(E, most):
    told = asked(E, most)[0]
    return " ".join([told[0], str(told[1]), shown(told[2])])


def answered(text, most):
    E = read(text)
    lines = [first_line(E, most)]
    for counts in book(E, most):
        lines.append(" ".join([str(count) for count in counts]))
    return "\n".join(lines)
