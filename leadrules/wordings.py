"""Words: formulas, sayings and numbers as they are written, and read again."""

from leadrules.basics import is_name, is_rule
from leadrules.common import MOST_PIECES, all_pieces
from leadrules.formulas import is_formula
from leadrules.sayings import is_saying

# How many formulas or sayings stand in the piece of each word.
PARTS = {"day": 0, "num": 0, "on": 1, "by": 1, "til": 1, "add": 1, "late": 2, "soon": 2, "le": 2, "and": 2, "or": 2,
         "not": 1}

# Python itself refuses to read numbers that have a few hundred digits more.
MOST_DIGITS = 4000


def told_words(told):
    """The list of the words of a formula or saying."""
    words = []
    for piece in all_pieces(told):
        words.append(piece[0])
        if _has_more(piece[0]):
            words.append(str(piece[1]))
    return words


def number_in(word):
    """The INTEGER that a word is; None if it is none."""
    digits = word[1:] if word.startswith("-") else word
    if not 1 <= len(digits) <= MOST_DIGITS or not all([digit in "0123456789" for digit in digits]):
        return None
    if digits.startswith("0") and word != "0":
        return None
    return int(word)


def numbers_in(words):
    """The list of the INTEGERS that words are; None if one is none."""
    found = [number_in(word) for word in words]
    return None if None in found else found


def bound_in(word):
    """The bound of a lead that a word is, None for `-`; the word itself if it is none."""
    number = number_in(word)
    if number is not None:
        return number
    return None if word == "-" else word


def formula_in(words):
    """The formula of these words; None if they are no formula of at most 60 pieces."""
    found = formulas_in(words)
    return found[0] if found is not None and len(found) == 1 else None


def formulas_in(words):
    """The list of the formulas of these words, one behind the other; None if they are none of at most 60 pieces."""
    found = _tolds_in(words)
    if found is None or not all([is_formula(told) and len(all_pieces(told)) <= MOST_PIECES for told in found]):
        return None
    return found


def saying_in(words):
    """The saying of these words; None if they are no saying of at most 60 pieces."""
    found = _tolds_in(words)
    if found is None or len(found) != 1 or not is_saying(found[0]) or len(all_pieces(found[0])) > MOST_PIECES:
        return None
    return found[0]


def _has_more(word):
    """Whether a rule, number or name stands behind the word of a piece."""
    return word in ("day", "num", "on", "by", "til", "add")


def _heads_in(words):
    """The list of what the pieces of these words begin with; None if they are no such."""
    heads = []
    place = 0
    while place < len(words):
        word = words[place]
        if word not in PARTS:
            return None
        if not _has_more(word):
            heads.append((word,))
            place += 1
        else:
            more = _told_more(word, words[place + 1]) if place + 1 < len(words) else None
            if more is None:
                return None
            heads.append((word, more))
            place += 2
    return heads


def _told_more(word, more):
    """What stands behind the word of a piece: a rule, number or name; None if it is none."""
    if word in ("num", "add"):
        return number_in(more)
    right = is_name(more) if word == "day" else is_rule(more)
    return more if right else None


def _tolds_in(words):
    """The list of what is told by words, one behind the other, its kind not looked at; None if something lacks."""
    heads = _heads_in(words)
    if heads is None:
        return None
    # From the last piece on, as then the parts of each one are made ahead of it.
    made = []
    for head in heads[::-1]:
        many = PARTS[head[0]]
        if many > len(made):
            return None
        parts = made[len(made) - many:][::-1]
        del made[len(made) - many:]
        made.append(head + tuple(parts))
    return made[::-1]
