"""Formulas, sayings, worlds and days that are drawn, each time the same."""

from leadrules.tables import Table


def formula(draw, depth, names="xyz", rules="ab", leaves=None):
    """A formula that is at most so deep."""
    if depth == 0 or draw.random() < 0.15:
        if leaves == "days" or draw.random() < 0.75:
            return ("day", draw.choice(names))
        return ("num", draw.randint(-4, 4))
    word = draw.choice(("on", "by", "til", "add", "late", "soon"))
    if word in ("late", "soon"):
        return (word, formula(draw, depth - 1, names, rules, leaves), formula(draw, depth - 1, names, rules, leaves))
    told = draw.randint(-3, 3) if word == "add" else draw.choice(rules)
    return (word, told, formula(draw, depth - 1, names, rules, leaves))


def saying(draw, depth, inner=2, names="xyz", rules="ab"):
    """A saying that is at most so deep, its formulas at most as deep as inner."""
    if depth == 0 or draw.random() < 0.2:
        return ("le", formula(draw, inner, names, rules), formula(draw, inner, names, rules))
    word = draw.choice(("and", "or", "not"))
    parts = 1 if word == "not" else 2
    return (word,) + tuple(saying(draw, depth - 1, inner, names, rules) for _ in range(parts))


def days(draw, names="xyz", most=6):
    """Days for names."""
    return {name: draw.randint(-most, most) for name in names}


def list_of_days(draw, length, spread=4):
    """A list of days of a length."""
    first = draw.randint(-spread, spread)
    return [first] + sorted(first + draw.randint(0, length) for _ in range(length - 1))


def lists(draw, rules="ab", most=4):
    """Lists of days for rules."""
    return {rule: list_of_days(draw, draw.randint(1, most)) for rule in rules}


def world(told):
    """The world of lists of days."""
    return {rule: Table(told[rule]) for rule in told}


def row(draw, rules, spread=4):
    """A row of a log."""
    return (draw.choice(rules), draw.randint(-spread, spread), draw.randint(-spread, spread + 2))


def promise(draw, rules, spread=4):
    """A promise."""
    if draw.random() < 0.5:
        return ("quick",) + tuple(draw.sample(rules, 2))
    least, most = draw.choice([(1, 1), (1, 0), (0, 1)])
    first = draw.randint(-spread, 1)
    return ("lead", draw.choice(rules), first if least else None, first + draw.randint(-1, spread) if most else None)


def answers(draw, rules, many=3, spread=4):
    """The answers of a picture, the served days mostly rising."""
    told = {}
    for rule in rules:
        asked = sorted(draw.sample(range(-spread, spread + 1), draw.randint(0, many)))
        served = [draw.randint(-spread, spread + 2) for _ in asked]
        if draw.random() < 0.8:
            served = sorted(served)
        if asked or draw.random() < 0.3:
            told[rule] = list(zip(asked, served))
    return told
