"""Texts read as programs, and expressions written as texts."""

from samestride.errors import NoName, NoTerm
from samestride.trees import FORMS, bound_names, free_names, places
from samestride.words import is_name, read_number

MOST_PLACES = 100
MOST_DEEP = 20


def leaf_of(word):
    if is_name(word):
        return ("name", word)
    return ("num", read_number(word))


class Reader:
    def __init__(self, words):
        self.words = words
        self.at = 0

    def take_word(self):
        if self.at == len(self.words):
            raise NoTerm("a word too few")
        word = self.words[self.at]
        self.at += 1
        return word

    def take_name(self):
        word = self.take_word()
        if not is_name(word):
            raise NoTerm(f"no name: {word!r}")
        return word

    # Too deep is refused on the way down, so that no text leads to a deep recursion.
    def take_expression(self, level):
        if level > MOST_DEEP:
            raise NoTerm("too deep")
        word = self.take_word()
        if word not in FORMS:
            return leaf_of(word)
        found = [word]
        for k in range(FORMS[word][0]):
            found.append(self.take_name())
        for k in range(FORMS[word][1]):
            found.append(self.take_expression(level + 1))
        return tuple(found)

    def take_end(self):
        if self.at < len(self.words):
            raise NoTerm("a word too many")


def has_name_twice(E):
    return E[0] == "rec" and E[1] == E[2]


# Asked only when the whole text is an expression within the bounds: NoTerm goes ahead of NoName.
def check_names(E):
    if free_names(E):
        raise NoName("a free name")
    for place in places(E):
        if has_name_twice(place):
            raise NoName("a rec with one name twice")


# Split at each single blank: a blank too many makes an empty word, and that is no word of any form.
def read(text):
    reader = Reader(text.split(" "))
    E = reader.take_expression(0)
    reader.take_end()
    if len(places(E)) > MOST_PLACES:
        raise NoTerm("too many places")
    check_names(E)
    return E


def own_words(place):
    if place[0] == "num":
        return (str(place[1]),)
    if place[0] == "name":
        return (place[1],)
    return (place[0],) + bound_names(place)


def shown(E):
    words = []
    for place in places(E):
        words.extend(own_words(place))
    return " ".join(words)
