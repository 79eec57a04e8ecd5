"""Sayings: when they hold, what stands in them, and other ways to write them."""

from leadrules.basics import is_name, is_rule
from leadrules.common import (all_pieces, names_in, need_days, need_few_pieces, need_name, parts_of, rebuilt,
                              rules_in)
from leadrules.errors import InvalidNames, InvalidRules, InvalidSaying, TooMany
from leadrules.formulas import MOST_WAYS, is_formula, need_formula, need_known, reckoned, without_doubles
from leadrules.tables import need_world

# How many things stand in the tuple of each saying, its word counted.
SIZES_OF_SAYINGS = {"le": 3, "and": 3, "or": 3, "not": 2}

# What becomes of and and or behind a not.
CONTRARY_JOINTS = {"and": "or", "or": "and"}


def is_saying(value):
    """Whether a value is a saying, of however many pieces."""
    waiting = [value]
    while waiting:
        saying = waiting.pop()
        if not _is_tuple_of_saying(saying):
            return False
        if saying[0] != "le":
            waiting.extend(parts_of(saying))
        elif not is_formula(saying[1]) or not is_formula(saying[2]):
            return False
    return True


def need_saying(value):
    """Raise InvalidSaying unless the value is a saying."""
    if not is_saying(value):
        raise InvalidSaying(value)


def need_told(value):
    """Raise InvalidSaying unless the value is a formula or a saying."""
    if not is_formula(value) and not is_saying(value):
        raise InvalidSaying(value)


def holds(saying, days, world):
    """Whether a saying holds with days for its names and Tables for its rules."""
    need_saying(saying)
    need_days(days)
    need_world(world)
    need_known(saying, days, world)
    return is_so(saying, days, world)


def is_so(saying, days, rules):
    """Whether a saying holds, told for each rule an object with on, by and til."""
    word = saying[0]
    if word == "le":
        return reckoned(saying[1], days, rules) <= reckoned(saying[2], days, rules)
    if word == "not":
        return not is_so(saying[1], days, rules)
    if word == "and":
        return is_so(saying[1], days, rules) and is_so(saying[2], days, rules)
    return is_so(saying[1], days, rules) or is_so(saying[2], days, rules)


def pieces(told):
    """How many pieces a formula or saying has."""
    need_told(told)
    return len(all_pieces(told))


def names_of(told):
    """The sorted list of all names in a formula or saying."""
    need_told(told)
    return names_in(told)


def rules_of(told):
    """The sorted list of all rules in a formula or saying."""
    need_told(told)
    return rules_in(told)


def put(told, name, formula):
    """What is told with a formula in the place of a name's day."""
    need_told(told)
    need_name(name)
    need_formula(formula)
    need_few_pieces([told, formula])
    changed = with_leaf(told, ("day", name), formula)
    need_few_pieces([changed])
    return changed


def with_rules(told, rules):
    """What is told with rules exchanged for others, all at once."""
    need_told(told)
    if not isinstance(rules, dict) or not all([is_rule(old) and is_rule(new) for old, new in rules.items()]):
        raise InvalidRules(rules)
    need_few_pieces([told])
    return _renamed(told, ("on", "by", "til"), rules)


def with_names(told, names):
    """What is told with names exchanged for others, all at once."""
    need_told(told)
    if not isinstance(names, dict) or not all([is_name(old) and is_name(new) for old, new in names.items()]):
        raise InvalidNames(names)
    need_few_pieces([told])
    return _renamed(told, ("day",), names)


def pushed(saying):
    """The saying with not ahead of le alone."""
    return _changed_by(_pushed_in, saying)


def contrary(saying):
    """What holds just if the saying does not, with not ahead of le alone."""
    return _changed_by(contrary_of, saying)


def positive(saying):
    """The saying without any not."""
    return _changed_by(_made_positive, saying)


def ways(saying):
    """The ways of a saying: lists of literals, all of one of which hold if it does."""
    need_saying(saying)
    need_few_pieces([saying])
    told = _pushed_in(saying)
    if _many_ways(told) > MOST_WAYS:
        raise TooMany("ways", MOST_WAYS)
    return [without_doubles(way) for way in _all_ways(told)]


def plain(told):
    """What is told, made shorter."""
    need_told(told)
    need_few_pieces([told])
    return _made_plain(told)


def _is_tuple_of_saying(value):
    """Whether a value has the form of a saying, its parts not looked at."""
    if not isinstance(value, tuple) or len(value) == 0 or not isinstance(value[0], str):
        return False
    return value[0] in SIZES_OF_SAYINGS and len(value) == SIZES_OF_SAYINGS[value[0]]


def with_leaf(told, leaf, formula):
    """What is told with a formula wherever a leaf stands."""
    if told == leaf:
        return formula
    return rebuilt(told, [with_leaf(part, leaf, formula) for part in parts_of(told)])


def _renamed(told, words, table):
    """What is told with the second thing of all pieces of these words exchanged."""
    changed = rebuilt(told, [_renamed(part, words, table) for part in parts_of(told)])
    if told[0] in words:
        return (told[0], table.get(told[1], told[1])) + changed[2:]
    return changed


def _changed_by(change, saying):
    """What a function makes of a saying, which must have few pieces, as must the saying."""
    need_saying(saying)
    need_few_pieces([saying])
    changed = change(saying)
    need_few_pieces([changed])
    return changed


def _pushed_in(saying):
    """The saying pushed in."""
    if saying[0] == "le":
        return saying
    if saying[0] == "not":
        return contrary_of(saying[1])
    return (saying[0], _pushed_in(saying[1]), _pushed_in(saying[2]))


def contrary_of(saying):
    """The contrary of a saying: not ahead of it, pushed in."""
    if saying[0] == "le":
        return ("not", saying)
    if saying[0] == "not":
        return _pushed_in(saying[1])
    return (CONTRARY_JOINTS[saying[0]], contrary_of(saying[1]), contrary_of(saying[2]))


def _made_positive(saying):
    """The saying pushed in, each not le in it written as le."""
    return _without_not(_pushed_in(saying))


def _without_not(saying):
    """A saying that is pushed in, each not le in it written as le."""
    if saying[0] == "not":
        return ("le", ("add", 1, saying[1][2]), saying[1][1])
    if saying[0] == "le":
        return saying
    return (saying[0], _without_not(saying[1]), _without_not(saying[2]))


def _many_ways(saying):
    """How many ways a saying has that is pushed in."""
    if saying[0] in ("le", "not"):
        return 1
    first, second = _many_ways(saying[1]), _many_ways(saying[2])
    return first + second if saying[0] == "or" else first * second


def _all_ways(saying):
    """The ways of a saying that is pushed in, with the literals that stand twice."""
    if saying[0] in ("le", "not"):
        return [[saying]]
    first, second = _all_ways(saying[1]), _all_ways(saying[2])
    if saying[0] == "or":
        return first + second
    return [way + other for way in first for other in second]


def _made_plain(told):
    """What is told, made plain from the inner formulas outward."""
    parts = [_made_plain(part) for part in parts_of(told)]
    if told[0] == "add":
        shift, core = _shift_and_core(parts[0])
        return _written(told[1] + shift, core)
    if told[0] in ("late", "soon"):
        (shift, core), (other_shift, other_core) = [_shift_and_core(part) for part in parts]
        if core == other_core:
            chosen = max(shift, other_shift) if told[0] == "late" else min(shift, other_shift)
            return _written(chosen, core)
    return rebuilt(told, parts)


def _shift_and_core(formula):
    """The shift and the core of a plain formula."""
    if formula[0] == "num":
        return (formula[1], ("num", 0))
    if formula[0] == "add":
        return (formula[1], formula[2])
    return (0, formula)


def _written(shift, core):
    """The plain formula of a shift and a core."""
    if core == ("num", 0):
        return ("num", shift)
    return core if shift == 0 else ("add", shift, core)
