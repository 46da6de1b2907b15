"""Names and numbers: the words that are expressions by themselves."""

from samestride.errors import NoTerm

KEPT_WORDS = ("fn", "rec", "call", "if")
LETTERS = "abcdefghijklmnopqrstuvwxyz"
FIGURES = "0123456789"
MOST_LETTERS = 8
MOST_FIGURES = 6


# Python's own isalpha, isdigit and int take more signs than the document does.
def is_made_of(text, signs, most):
    return 1 <= len(text) <= most and all([sign in signs for sign in text])


def is_name(text):
    return is_made_of(text, LETTERS, MOST_LETTERS) and text not in KEPT_WORDS


def is_number(text):
    return is_made_of(text, FIGURES, MOST_FIGURES) and (text == "0" or text[0] != "0")


def read_number(text):
    if not is_number(text):
        raise NoTerm(f"no number: {text!r}")
    return int(text)
