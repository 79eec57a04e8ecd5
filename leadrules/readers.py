"""Readers: what has a written form, made of it again."""

from leadrules.basics import is_name, is_rule
from leadrules.books import Book, is_promise, promise_place
from leadrules.errors import InvalidText
from leadrules.tables import Table, is_table
from leadrules.treeforms import NUMBERS, TREES, node_of
from leadrules.wordings import bound_in, formula_in, number_in, numbers_in, saying_in


def read(text):
    """The formula, saying, Table or Book that has a written form."""
    lines = _lines_of(text)
    if lines[0] == "book":
        thing = _book_in(lines)
    else:
        thing = _thing_in(lines[0].split(" "))
        if thing is None:
            raise InvalidText(1)
        if len(lines) > 1:
            raise InvalidText(2)
    _need_end(text, lines)
    return thing


def read_picture(text):
    """The picture that has a written form."""
    lines = _lines_of(text)
    if lines[0] != "picture":
        raise InvalidText(1)
    days, answers = {}, {}
    rule = None
    for number, line in enumerate(lines[1:], start=2):
        words = line.split(" ")
        told = _numbers_behind(words)
        if words[0] == "day" and _is_day_line(words) and rule is None and _is_behind(words[1], days):
            days[words[1]] = number_in(words[2])
        elif words[0] == "rule" and len(words) == 2 and is_rule(words[1]) and _is_behind(words[1], answers):
            rule = words[1]
            answers[rule] = []
        elif words[0] == "answer" and rule is not None and _is_next_answer(told, answers[rule]):
            answers[rule].append(tuple(told))
        else:
            raise InvalidText(number)
    _need_end(text, lines)
    return (days, answers)


def read_tree(text):
    """The tree that has a written form."""
    lines = _lines_of(text)
    if lines[0] != "tree":
        raise InvalidText(1)
    heads = []
    # How many nodes are still to come.
    lacking = 1
    for number, line in enumerate(lines[1:], start=2):
        head = _head_in(line.split(" ")) if lacking > 0 else None
        if head is None:
            raise InvalidText(number)
        heads.append(head)
        lacking = lacking - 1 + TREES.get(head[0], 0)
    if lacking > 0:
        raise InvalidText(len(lines) + 1)
    _need_end(text, lines)
    return _tree_of(heads)


def _lines_of(text):
    """The lines of a string that end with a line feed, at least one."""
    if not isinstance(text, str):
        raise InvalidText(0)
    lines = text.split("\n")[:-1]
    if not lines:
        raise InvalidText(1)
    return lines


def _need_end(text, lines):
    """Raise InvalidText if a last line without a line feed stands behind the lines of a string."""
    if not text.endswith("\n"):
        raise InvalidText(len(lines) + 1)


def _thing_in(words):
    """The formula, saying or Table of the words of one line; None if there is none."""
    if words[0] == "formula":
        return formula_in(words[1:])
    if words[0] == "saying":
        return saying_in(words[1:])
    days = _numbers_behind(words)
    return Table(days) if words[0] == "table" and is_table(days) else None


def _book_in(lines):
    """The Book of lines."""
    log, promises = [], []
    for number, line in enumerate(lines[1:], start=2):
        words = line.split(" ")
        row, promise = _row_in(words), _promise_in(words)
        if row is not None and not promises and _is_next_row(row, log):
            log.append(row)
        elif promise is not None and _is_next_promise(promise, promises):
            promises.append(promise)
        else:
            raise InvalidText(number)
    return Book(log, promises)


def _row_in(words):
    """The row of the words of a line; None if there is none."""
    days = numbers_in(words[2:])
    if words[0] != "row" or len(words) != 4 or not is_rule(words[1]) or days is None:
        return None
    return (words[1], days[0], days[1])


def _promise_in(words):
    """The promise of the words of a line; None if there is none."""
    promise = tuple(words)
    if words[0] == "lead" and len(words) == 4:
        promise = (words[0], words[1], bound_in(words[2]), bound_in(words[3]))
    return promise if is_promise(promise) else None


def _is_next_row(row, log):
    """Whether a row may stand behind those of a log."""
    return len(log) < Book.MOST_ROWS and (not log or log[-1] < row)


def _is_next_promise(promise, promises):
    """Whether a promise may stand behind others."""
    if len(promises) == Book.MOST_PROMISES:
        return False
    return not promises or promise_place(promises[-1]) < promise_place(promise)


def _numbers_behind(words):
    """The list of the INTEGERS behind the first word; None if one is none."""
    return numbers_in(words[1:])


def _is_day_line(words):
    """Whether words are those of a line of a name's day."""
    return len(words) == 3 and is_name(words[1]) and number_in(words[2]) is not None


def _is_behind(key, table):
    """Whether a key stands behind all keys of a dict."""
    return all([other < key for other in table])


def _is_next_answer(told, answers):
    """Whether numbers are an answer that may stand behind others."""
    return told is not None and len(told) == 2 and (not answers or answers[-1][0] < told[0])


def _head_in(words):
    """What the node of the words of a line begins with, of a ring the whole; None if there is none."""
    numbers = _numbers_behind(words)
    if numbers is None:
        return None
    if words[0] == "ring":
        return _ring_in(numbers)
    if words[0] not in NUMBERS or len(numbers) != NUMBERS[words[0]] or min(numbers, default=0) < 0:
        return None
    return (words[0],) + tuple(numbers)


def _ring_in(numbers):
    """The ring of numbers; None if there is none."""
    if len(numbers) == 0 or len(numbers) % 3 != 0:
        return None
    bounds = [tuple(numbers[place:place + 3]) for place in range(0, len(numbers), 3)]
    return ("ring", bounds) if all([min(bound[:2]) >= 0 for bound in bounds]) else None


def _tree_of(heads):
    """The tree of what its nodes begin with, each ahead of those in it."""
    # From the last node on, as then the trees within each one are made ahead of it.
    made = []
    for head in heads[::-1]:
        many = TREES.get(head[0], 0)
        trees = made[len(made) - many:][::-1]
        del made[len(made) - many:]
        made.append(node_of(head, trees))
    return made[0]
