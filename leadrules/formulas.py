"""Formulas of days: their days, their rows of chains, and their last and first days."""

from leadrules.basics import is_day, is_name, is_rule
from leadrules.common import (all_pieces, is_list, names_in, need_day, need_days, need_few_pieces, parts_of,
                              rebuilt, rules_in)
from leadrules.errors import InvalidFormula, InvalidRows, MissingName, MissingRule, NoTurn, TooMany
from leadrules.tables import need_world

MOST_WAYS = 60

# How many things stand in the tuple of each piece of a formula, its word counted.
SIZES = {"day": 2, "num": 2, "on": 3, "by": 3, "til": 3, "add": 3, "late": 3, "soon": 3}


def is_formula(value):
    """Whether a value is a formula, of however many pieces."""
    waiting = [value]
    while waiting:
        piece = waiting.pop()
        if not _is_piece(piece):
            return False
        waiting.extend(parts_of(piece))
    return True


def need_formula(value):
    """Raise InvalidFormula unless the value is a formula."""
    if not is_formula(value):
        raise InvalidFormula(value)


def need_rules(told, world):
    """Raise MissingRule of the least rule in what is told that a world lacks."""
    for rule in rules_in(told):
        if rule not in world:
            raise MissingRule(rule)


def need_names(told, days):
    """Raise MissingName of the least name in what is told that days lack."""
    for name in names_in(told):
        if name not in days:
            raise MissingName(name)


def need_known(told, days, world):
    """Raise an error unless what is told can be reckoned with days in a world."""
    need_rules(told, world)
    need_names(told, days)
    need_few_pieces([told])


def day_of(formula, days, world):
    """The day of a formula."""
    need_formula(formula)
    need_days(days)
    need_world(world)
    need_known(formula, days, world)
    return reckoned(formula, days, world)


def reckoned(formula, days, rules):
    """The day of a formula, told for each rule an object with on, by and til."""
    word = formula[0]
    if word == "day":
        return days[formula[1]]
    if word == "num":
        return formula[1]
    within = [reckoned(part, days, rules) for part in parts_of(formula)]
    if word == "on":
        return rules[formula[1]].on(within[0])
    if word == "by":
        return rules[formula[1]].by(within[0])
    if word == "til":
        return rules[formula[1]].til(within[0])
    if word == "add":
        return within[0] + formula[1]
    return max(within) if word == "late" else min(within)


def is_chain(value):
    """Whether a value is a chain: a formula with neither late nor soon in it."""
    return is_formula(value) and all([piece[0] not in ("late", "soon") for piece in all_pieces(value)])


def rows_of(formula):
    """The rows of a formula: its day is the latest day of them, theirs the earliest of their chains."""
    need_formula(formula)
    need_few_pieces([formula])
    if _many_rows(formula) > MOST_WAYS:
        raise TooMany("ways", MOST_WAYS)
    return without_doubles([without_doubles(row) for row in _all_rows(formula)])


def without_doubles(things):
    """The list of the things, each at its first place alone."""
    found = []
    for thing in things:
        # No dict does here: formulas may be nested deeper than its keys may be.
        if thing not in found:
            found.append(thing)
    return found


def woven(rows):
    """The formula that is made of rows of chains."""
    if not _is_filled_list(rows) or not all([_is_row_of_chains(row) for row in rows]):
        raise InvalidRows(rows)
    need_few_pieces([chain for row in rows for chain in row])
    formula = joined_by("late", [joined_by("soon", row) for row in rows])
    need_few_pieces([formula])
    return formula


def joined_by(word, parts):
    """Formulas or sayings within a word of two parts: what was joined so far, and the next one."""
    joined = parts[0]
    for part in parts[1:]:
        joined = (word, joined, part)
    return joined


def has_one_name(formula):
    """Whether all leaves of a formula are days of one name."""
    leaves = [piece for piece in all_pieces(formula) if piece[0] in ("day", "num")]
    return leaves[0][0] == "day" and all([leaf == leaves[0] for leaf in leaves])


def last_day(formula, day, world):
    """The greatest day of its one name by which a formula is at most a day."""
    _need_turning(formula, day, world)
    return _turned_day(formula, day, world, True)


def first_day(formula, day, world):
    """The least day of its one name by which a formula is at least a day."""
    _need_turning(formula, day, world)
    return _turned_day(formula, day, world, False)


def _is_piece(value):
    """Whether a value has the form of a piece of a formula, its parts not looked at."""
    if not isinstance(value, tuple) or len(value) == 0 or not isinstance(value[0], str):
        return False
    word = value[0]
    if word not in SIZES or len(value) != SIZES[word]:
        return False
    if word == "day":
        return is_name(value[1])
    if word in ("num", "add"):
        return is_day(value[1])
    return word in ("late", "soon") or is_rule(value[1])


def _many_rows(formula):
    """How many rows a formula has ahead of any being left out."""
    parts = [_many_rows(part) for part in parts_of(formula)]
    if len(parts) < 2:
        return sum(parts) if parts else 1
    return parts[0] + parts[1] if formula[0] == "late" else parts[0] * parts[1]


def _all_rows(formula):
    """The rows of a formula, with all that stands there twice."""
    parts = [_all_rows(part) for part in parts_of(formula)]
    if not parts:
        return [[formula]]
    if formula[0] == "late":
        return parts[0] + parts[1]
    if formula[0] == "soon":
        return [row + other for row in parts[0] for other in parts[1]]
    return [[rebuilt(formula, [chain]) for chain in row] for row in parts[0]]


def _is_filled_list(value):
    """Whether a value is a list that is not empty."""
    return is_list(value) and len(value) > 0


def _is_row_of_chains(value):
    """Whether a value is a list of chains that is not empty."""
    return _is_filled_list(value) and all([is_chain(chain) for chain in value])


def _need_turning(formula, day, world):
    """Raise an error unless a formula can be turned by a day in a world."""
    need_formula(formula)
    need_day(day)
    need_world(world)
    need_rules(formula, world)
    if not has_one_name(formula):
        raise NoTurn(formula)
    need_few_pieces([formula])


def _turned_day(formula, day, world, down):
    """The day of the formula's name: the last one if it is turned down, else the first one."""
    word = formula[0]
    if word == "day":
        return day
    if word in ("late", "soon"):
        both = [_turned_day(part, day, world, down) for part in parts_of(formula)]
        # A late is at most a day if both parts are, and at least a day if one is: the lesser day in both cases.
        return min(both) if word == "late" else max(both)
    return _turned_day(formula[2], _day_within(formula, day, world, down), world, down)


def _day_within(formula, day, world, down):
    """The day that the part of an on, by, til or add must keep to."""
    word = formula[0]
    if word == "add":
        return day - formula[1]
    table = world[formula[1]]
    if word == "on":
        return table.til(day) if down else table.by(day)
    if word == "by":
        return table.on(day) if down else table.on(day - 1) + 1
    return table.on(day + 1) - 1 if down else table.on(day)
