"""Written forms, straight from the document's tables: written and looked at by other ways than the package's.

Nothing of the package is used: Tables are ("table", days), Books ("book", rows, promises).
"""

import re

FORMULAS = {"day": "n", "num": "k", "on": "rf", "by": "rf", "til": "rf", "add": "kf", "late": "ff", "soon": "ff"}
SAYINGS = {"le": "ff", "and": "ss", "or": "ss", "not": "s"}
SHAPES = {"k": r"(0|-?[1-9][0-9]*)", "c": r"(0|[1-9][0-9]*)", "r": r"([a-h])", "n": r"([p-z])", "b": r"(-|0|-?[1-9][0-9]*)"}


def words_of(told):
    """The words of a formula or saying."""
    found = []
    for thing in told:
        found.append(words_of(thing) if isinstance(thing, tuple) else str(thing))
    return " ".join(found)


def number(told):
    return "-" if told is None else str(told)


def table_text(days):
    return "table " + " ".join(map(str, days)) + "\n"


def promise_place(promise):
    """What promises are sorted by: leads first, None ahead of all numbers."""
    if promise[0] == "quick":
        return (1,) + promise[1:]
    return (0, promise[1]) + tuple((0, 0) if bound is None else (1, bound) for bound in promise[2:])


def book_text(rows, promises):
    lines = ["book"] + ["row " + " ".join(map(str, row)) for row in sorted(set(rows))]
    for promise in sorted(set(promises), key=promise_place):
        lines.append(" ".join([promise[0], promise[1]] + [
            part if isinstance(part, str) else number(part) for part in promise[2:]]))
    return "".join(line + "\n" for line in lines)


def picture_text(picture):
    days, answers = picture
    lines = ["picture"] + [f"day {name} {days[name]}" for name in sorted(days)]
    for rule in sorted(answers):
        lines += [f"rule {rule}"] + [f"answer {asked} {served}" for asked, served in answers[rule]]
    return "".join(line + "\n" for line in lines)


def tree_lines(node):
    if node[0] == "ring":
        return ["ring " + " ".join(str(part) for bound in node[1] for part in bound)]
    numbers = [part for part in node[1:] if isinstance(part, int)]
    lines = [" ".join([node[0]] + list(map(str, numbers)))]
    return lines + [line for part in node[1:] if isinstance(part, tuple) for line in tree_lines(part)]


def tree_text(tree):
    return "tree\n" + "".join(line + "\n" for line in tree_lines(tree))


def parsed(words, kind):
    """What is told at the beginning of words, and the words left; None if nothing is."""
    shapes = FORMULAS if kind == "f" else SAYINGS
    if not words or words[0] not in shapes:
        return None
    told, left = [words[0]], words[1:]
    for sign in shapes[words[0]]:
        if sign in "fs":
            part = parsed(left, sign)
            if part is None:
                return None
            told.append(part[0])
            left = part[1]
        elif not left or not re.fullmatch(SHAPES[sign], left[0]):
            return None
        else:
            told.append(int(left[0]) if sign == "k" else left[0])
            left = left[1:]
    return tuple(told), left


def count(told):
    """How many pieces there are."""
    return 1 + sum(count(part) for part in told if isinstance(part, tuple))


def told_in(line, word, kind):
    """The formula or saying of a whole line; None if there is none."""
    if not line.startswith(word + " "):
        return None
    found = parsed(line[len(word) + 1:].split(" "), kind)
    return found[0] if found and not found[1] and count(found[0]) <= 60 else None


def values(pattern, line):
    """What a line tells by a pattern of words and signs; None if it is another one."""
    shapes = [SHAPES.get(word, word) for word in pattern.split(" ")]
    found = re.fullmatch(" ".join(shapes), line)
    if found is None:
        return None
    return [None if part == "-" else int(part) if re.fullmatch(SHAPES["k"], part) else part for part in found.groups()]


def is_table_line(line):
    words = line.split(" ")
    if words[0] != "table" or len(words) < 2 or not all(re.fullmatch(SHAPES["k"], word) for word in words[1:]):
        return False
    days = list(map(int, words[1:]))
    return len(days) <= 600 and days == sorted(days) and days[-1] - days[0] <= len(days)


def is_book_start(lines):
    """Whether lines are the first ones of some Book's."""
    if lines[0] != "book":
        return False
    rows, promises = [], []
    for line in lines[1:]:
        row, lead, quick = values("row r k k", line), values("lead r b b", line), values("quick r r", line)
        if row is not None and not promises:
            rows.append(tuple(row))
        elif lead is not None and lead[1:] != [None, None]:
            promises.append(("lead", *lead))
        elif quick is not None and quick[0] != quick[1]:
            promises.append(("quick", *quick))
        else:
            return False
    return (len(rows) <= 24 and len(promises) <= 12 and rows == sorted(set(rows))
            and promises == sorted(set(promises), key=promise_place))


def is_picture_start(lines):
    if lines[0] != "picture":
        return False
    kinds = "".join({"day": "d", "rule": "r", "answer": "a"}.get(line.split(" ")[0], "x") for line in lines[1:])
    if not re.fullmatch("d*(ra*)*", kinds):
        return False
    days = [values("day n k", line) for line in lines[1:] if line.startswith("day")]
    rules = [values("rule r", line) for line in lines[1:] if line.startswith("rule")]
    if None in days or None in rules:
        return False
    names, letters = [day[0] for day in days], [rule[0] for rule in rules]
    if names != sorted(set(names)) or letters != sorted(set(letters)):
        return False
    last = None
    for line in lines[1:]:
        if line.startswith("answer"):
            found = values("answer k k", line)
            if found is None or (last is not None and found[0] <= last):
                return False
            last = found[0]
        else:
            last = None
    return True


def tree_state(lines):
    """Whether lines are the first ones of some tree's; and whether they are the whole of one."""
    if lines[0] != "tree":
        return False, False
    lacking = 1
    for line in lines[1:]:
        many = {"or": 2, "late": 2, "soon": 2, "pair": 3, "cross": 2}.get(line.split(" ")[0], 0)
        word = line.split(" ")[0]
        shape = {"or": "or", "late": "late c", "soon": "soon c", "pair": "pair c c", "cross": "cross c c"}.get(word)
        if word == "ring":
            if not re.fullmatch("ring( {c} {c} {k})+".format(**SHAPES), line):
                return False, False
        elif shape is None or values(shape, line) is None:
            return False, False
        if lacking == 0:
            return False, False
        lacking += many - 1
    return True, lacking == 0


def start_and_whole(lines, kind):
    """Whether lines are the first ones of some written form of a kind, and whether they are a whole one."""
    if not lines:
        return True, False
    if kind == "picture":
        return (is_picture_start(lines),) * 2
    if kind == "tree":
        return tree_state(lines)
    one = any(test for test in (told_in(lines[0], "formula", "f") is not None, told_in(lines[0], "saying", "s") is not None,
                                is_table_line(lines[0])))
    right = one and len(lines) == 1 or is_book_start(lines)
    return right, right


def wrong_line(text, kind):
    """The wrong line of a string, found by cutting and trying; None if it is a written form."""
    *lines, rest = text.split("\n")
    for many in range(1, len(lines) + 1):
        if not start_and_whole(lines[:many], kind)[0]:
            return many
    if rest or not start_and_whole(lines, kind)[1]:
        return len(lines) + 1
    return None
