"""Theses: what may be true of sayings, books, calendars, asks and plans, and the papers that show it."""

from leadrules.asks import is_parting, parting, settles, settling
from leadrules.basics import is_day
from leadrules.beside import decides, later_saying, left_saying, never_later
from leadrules.books import Book
from leadrules.errors import InvalidThesis, LeadError, LimitError, MissingError, StateError
from leadrules.known import is_known_break, is_known_tree, known_broken, known_tree, known_verdict
from leadrules.laid import is_break
from leadrules.loose import is_loose, loose
from leadrules.pictures import is_picture
from leadrules.promised import follow_saying, follows
from leadrules.reasons import enough
from leadrules.slack import least_slack, slack_saying, slack_tree
from leadrules.sure import broken_paper, is_broken, is_broken_paper
from leadrules.trees import is_tree, tree
from leadrules.verdicts import broken, verdict

WORDS = (("for all", "broken"), ("kept", "not kept"), ("within", "beyond"), ("bounded", "loose"), ("same", "not same"),
         ("follows", "open"), ("enough", "not enough"), ("known for all", "known broken"), ("settled", "unsettled"),
         ("decides", "never decides"), ("never later", "perhaps later"))

# The parts behind each first word, by signs: B a Book, N an INTEGER, a dot what the function of the line looks at.
PARTS = {"for all": ".B", "kept": "B", "within": "..NB", "bounded": "..B", "same": "..B", "follows": ".B",
         "enough": "..B", "known for all": ".B.", "settled": "..B", "decides": "...B", "never later": "....B"}


def words():
    """The list of the two words of each line of theses."""
    return list(WORDS)


def is_thesis(value):
    """Whether a value is a thesis."""
    return _first_truth(value) is not None


def is_true(thesis):
    """Whether a thesis is true."""
    return _truth(thesis)


def contrary_thesis(thesis):
    """The thesis of the other word, with the same parts."""
    _truth(thesis)
    first, second = _line_of(thesis[0])
    return (second if thesis[0] == first else first,) + tuple([_copied(part) for part in thesis[1:]])


def paper_of(thesis):
    """A paper of a thesis; None if it is not true."""
    if not _truth(thesis):
        return None
    first, parts = _line_of(thesis[0])[0], thesis[1:]
    return _first_paper(first, parts) if thesis[0] == first else _second_paper(first, parts)


def is_paper(thesis, value):
    """Whether a value is a paper of a thesis."""
    _truth(thesis)
    first, parts = _line_of(thesis[0])[0], thesis[1:]
    try:
        if thesis[0] == first:
            return _is_first_paper(first, parts, value)
        return _is_second_paper(first, parts, value)
    except (LeadError, MissingError, StateError, LimitError):
        return False


def _line_of(word):
    """The two words of the line that has a word; None if none has it."""
    for line in WORDS:
        if word in line:
            return line
    return None


def _has_parts(value, line):
    """Whether a tuple has as many parts as its line tells, and Books and INTEGERS where they belong."""
    signs = PARTS[line[0]]
    if len(value) != 1 + len(signs):
        return False
    for sign, part in zip(signs, value[1:]):
        if (sign == "B" and not isinstance(part, Book)) or (sign == "N" and not is_day(part)):
            return False
    return True


def _first_truth(value):
    """Whether the first thesis of a value's line is true; None if the value is no thesis."""
    if not isinstance(value, tuple) or len(value) == 0 or not isinstance(value[0], str):
        return None
    line = _line_of(value[0])
    if line is None or not _has_parts(value, line):
        return None
    try:
        return _is_first_true(line[0], value[1:])
    except (LeadError, MissingError, StateError, LimitError):
        return None


def _truth(thesis):
    """Whether a thesis is true."""
    found = _first_truth(thesis)
    if found is None:
        raise InvalidThesis(thesis)
    return found == (thesis[0] == _line_of(thesis[0])[0])


def _copied(part):
    """A part with new lists and dicts in it."""
    if isinstance(part, dict):
        return {key: _copied(part[key]) for key in sorted(part)}
    if isinstance(part, list):
        return [_copied(one) for one in part]
    return tuple([_copied(one) for one in part]) if isinstance(part, tuple) else part


def _is_first_true(first, parts):
    """Whether the thesis of a line's first word is true, by the function of the line."""
    if first == "for all":
        return verdict(*parts) == "all"
    if first == "kept":
        return not is_broken(*parts)
    if first in ("within", "bounded"):
        slack = least_slack(parts[0], parts[1], parts[-1])
        return slack is not None and (first == "bounded" or slack <= parts[2])
    if first == "same":
        return [verdict(saying, parts[2]) for saying in _both_ways(parts)] == ["all", "all"]
    if first == "follows":
        return follows(*parts)
    if first == "enough":
        return enough(*parts)
    if first == "known for all":
        return known_verdict(*parts) == "all"
    if first == "settled":
        return settles(*parts)
    return decides(*parts) if first == "decides" else never_later(*parts)


def _both_ways(parts):
    """The sayings that a first formula is not later than a second one, and the other way round."""
    return [("le", parts[0], parts[1]), ("le", parts[1], parts[0])]


def _saying_and_book(first, parts):
    """The saying, and the Book beside it, that hold for all just if the one thesis of a line is true."""
    book = parts[-1]
    if first == "for all":
        return parts
    if first == "within":
        return (slack_saying(parts[0], parts[1], parts[2]), book)
    if first == "follows":
        return (follow_saying(parts[0]), book)
    if first == "enough":
        return (parts[1], Book(parts[0], book.promises))
    if first == "settled":
        return settling(*parts)
    if first == "decides":
        return (left_saying(parts[0], parts[1], parts[2]), book)
    return (later_saying(parts[0], parts[1], parts[2], parts[3]), book)


def _first_paper(first, parts):
    """A paper of the thesis of a line's first word, which is true."""
    if first == "kept":
        return ({}, {})
    if first == "bounded":
        return (least_slack(*parts), slack_tree(*parts))
    if first == "same":
        return tuple([tree(saying, parts[2]) for saying in _both_ways(parts)])
    if first == "known for all":
        return known_tree(*parts)
    told = _saying_and_book(first, parts)
    return broken(*told) if first == "decides" else tree(*told)


def _second_paper(first, parts):
    """A paper of the thesis of a line's second word, which is true."""
    if first == "kept":
        return broken_paper(*parts)
    if first == "bounded":
        return loose(*parts)
    if first == "same":
        picture = broken(_both_ways(parts)[0], parts[2])
        return (False, broken(_both_ways(parts)[1], parts[2])) if picture is None else (True, picture)
    if first == "known for all":
        return known_broken(*parts)
    if first == "settled":
        return parting(*parts)
    told = _saying_and_book(first, parts)
    return tree(*told) if first == "decides" else broken(*told)


def _is_first_paper(first, parts, value):
    """Whether a value is a paper of the thesis of a line's first word."""
    if first == "kept":
        return is_picture(value, parts[0]) and len(value[0]) == 0
    if first == "bounded":
        if not isinstance(value, tuple) or len(value) != 2 or not is_day(value[0]):
            return False
        return is_tree(value[1], slack_saying(parts[0], parts[1], value[0]), parts[2])
    if first == "same":
        if not isinstance(value, tuple) or len(value) != 2:
            return False
        return all([is_tree(paper, saying, parts[2]) for paper, saying in zip(value, _both_ways(parts))])
    if first == "known for all":
        return is_known_tree(value, parts[0], parts[1], parts[2])
    saying, book = _saying_and_book(first, parts)
    return is_break(value, saying, book) if first == "decides" else is_tree(value, saying, book)


def _is_second_paper(first, parts, value):
    """Whether a value is a paper of the thesis of a line's second word."""
    if first == "kept":
        return is_broken_paper(value, parts[0])
    if first == "bounded":
        return is_loose(value, parts[0], parts[1], parts[2])
    if first == "same":
        if not isinstance(value, tuple) or len(value) != 2 or not isinstance(value[0], bool):
            return False
        return is_break(value[1], _both_ways(parts)[0 if value[0] else 1], parts[2])
    if first == "known for all":
        return is_known_break(value, parts[0], parts[1], parts[2])
    if first == "settled":
        return is_parting(value, parts[0], parts[1], parts[2])
    saying, book = _saying_and_book(first, parts)
    return is_tree(value, saying, book) if first == "decides" else is_break(value, saying, book)
