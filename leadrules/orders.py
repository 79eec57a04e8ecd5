"""Orders: commands taken apart into a word and the things behind it."""

from leadrules.books import is_promise, is_row
from leadrules.wordings import bound_in, formula_in, formulas_in, number_in, saying_in

DEEDS = ("saw", "strike", "promise", "release", "watch", "forget")
# Commands with nothing behind the word.
ALONE = ("undo", "redo", "states", "rows", "promises")
OF_LABELS = ("forget", "state", "saying", "why")
MOST_SIGNS = 8
MOST_DIGITS = 12


def order_of(value):
    """The tuple of a command's word and the things behind it; None if the value is no command."""
    if not isinstance(value, str):
        return None
    words = value.split(" ")
    things = _things_in(words[0], words[1:])
    return None if things is None or None in things else (words[0],) + tuple(things)


def is_label(word):
    """Whether a word is a label: one to eight small letters and digits, the first one a letter."""
    if not 1 <= len(word) <= MOST_SIGNS:
        return False
    letters = "abcdefghijklmnopqrstuvwxyz"
    return word[0] in letters and all([sign in letters + "0123456789" for sign in word])


def _things_in(word, words):
    """The list of the things that words tell behind a command's word, with None for what is none; or None."""
    if word in ALONE:
        return [] if not words else None
    if word in ("saw", "strike"):
        return [_row_in(words)]
    if word in ("promise", "release"):
        return [_promise_in(words)]
    if word in OF_LABELS:
        return [words[0]] if len(words) == 1 and is_label(words[0]) else None
    if word == "watch":
        return [words[0], saying_in(words[1:])] if words and is_label(words[0]) else None
    if word == "ask":
        return [saying_in(words)]
    if word in ("least", "greatest"):
        return [formula_in(words)]
    if word == "slack":
        formulas = formulas_in(words)
        return formulas if formulas is not None and len(formulas) == 2 else None
    return None


def _row_in(words):
    """The row of words; None if there is none."""
    if len(words) != 3:
        return None
    row = (words[0], _day_in(words[1]), _day_in(words[2]))
    return row if is_row(row) else None


def _promise_in(words):
    """The promise of words; None if there is none."""
    if len(words) == 4 and words[0] == "lead" and all([word == "-" or _day_in(word) is not None for word in words[2:]]):
        promise = ("lead", words[1], bound_in(words[2]), bound_in(words[3]))
    else:
        promise = tuple(words)
    return promise if is_promise(promise) else None


def _day_in(word):
    """The day of at most twelve digits that a word is; None if it is none."""
    many = len(word) - 1 if word.startswith("-") else len(word)
    return number_in(word) if many <= MOST_DIGITS else None
