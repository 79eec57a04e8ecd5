"""Formulas turned, and sayings freed, so that a name's day stands alone."""

from leadrules.common import all_pieces, names_in, need_few_pieces, need_name, parts_of
from leadrules.errors import NoTurn
from leadrules.formulas import has_one_name, need_formula
from leadrules.sayings import need_saying


def turned_down(formula, name):
    """The formula of the last day of the formula's name, by the day of the told name."""
    _need_turned(formula, name)
    turned = turned_by(formula, ("day", name), True)
    need_few_pieces([turned])
    return turned


def turned_up(formula, name):
    """The formula of the first day of the formula's name, by the day of the told name."""
    _need_turned(formula, name)
    turned = turned_by(formula, ("day", name), False)
    need_few_pieces([turned])
    return turned


def freed(saying, name):
    """The saying with the name's day as a whole side of a le wherever it is read."""
    need_saying(saying)
    need_name(name)
    for piece in all_pieces(saying):
        if piece[0] == "le" and name in names_in(piece[1]) and name in names_in(piece[2]):
            raise NoTurn(piece)
    need_few_pieces([saying])
    changed = _freed_within(saying, name)
    need_few_pieces([changed])
    return changed


def _need_turned(formula, name):
    """Raise an error unless a formula can be turned."""
    need_formula(formula)
    need_name(name)
    if not has_one_name(formula):
        raise NoTurn(formula)
    need_few_pieces([formula])


def turned_by(formula, goal, down):
    """The formula turned down, or up, by a goal, which is a formula too."""
    if formula[0] == "day":
        return goal
    if formula[0] in ("late", "soon"):
        word = "soon" if formula[0] == "late" else "late"
        return (word, turned_by(formula[1], goal, down), turned_by(formula[2], goal, down))
    return turned_by(formula[2], _goal_within(formula, goal, down), down)


def _goal_within(formula, goal, down):
    """The goal that the part of an on, by, til or add has."""
    word, told, _ = formula
    if word == "add":
        return ("add", -told, goal)
    if word == "on":
        return ("til" if down else "by", told, goal)
    if word == "by":
        return ("on", told, goal) if down else ("add", 1, ("on", told, ("add", -1, goal)))
    return ("add", -1, ("on", told, ("add", 1, goal))) if down else ("on", told, goal)


def _freed_within(saying, name):
    """The saying freed, told that no le in it reads the name on both sides."""
    if saying[0] != "le":
        return (saying[0],) + tuple([_freed_within(part, name) for part in parts_of(saying)])
    first, second = saying[1:]
    if name in names_in(first):
        return _freed_side(first, second, name, True)
    if name in names_in(second):
        return _freed_side(second, first, name, False)
    return saying


def _freed_side(formula, goal, name, down):
    """The saying that a formula is at most a goal, or, up, at least a goal, freed."""
    if formula == ("day", name) or name not in names_in(formula):
        return ("le", formula, goal) if down else ("le", goal, formula)
    if formula[0] in ("late", "soon"):
        # The later one is at most a goal if both are, and at least a goal if one is.
        word = "and" if (formula[0] == "late") == down else "or"
        return (word, _freed_side(formula[1], goal, name, down), _freed_side(formula[2], goal, name, down))
    return _freed_side(formula[2], _goal_within(formula, goal, down), name, down)
