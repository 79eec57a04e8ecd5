"""What several files need: the checks of simple parameters, and the pieces of formulas and sayings."""

from leadrules.basics import is_count, is_day, is_days, is_name, is_rule
from leadrules.errors import InvalidCount, InvalidDay, InvalidDays, InvalidName, InvalidRule, TooMany

MOST_PIECES = 60


def need_day(value):
    """Raise InvalidDay unless the value is a DAY."""
    if not is_day(value):
        raise InvalidDay(value)


def need_count(value):
    """Raise InvalidCount unless the value is a COUNT."""
    if not is_count(value):
        raise InvalidCount(value)


def need_length(value):
    """Raise InvalidCount unless the value is a COUNT above 0."""
    if not is_count(value) or value == 0:
        raise InvalidCount(value)


def need_rule(value):
    """Raise InvalidRule unless the value is a rule."""
    if not is_rule(value):
        raise InvalidRule(value)


def need_name(value):
    """Raise InvalidName unless the value is a name."""
    if not is_name(value):
        raise InvalidName(value)


def need_days(value):
    """Raise InvalidDays unless the value is a dict from names to days."""
    if not is_days(value):
        raise InvalidDays(value)


def is_list(value):
    """Whether a value is a list, or a tuple in its place."""
    return isinstance(value, (list, tuple))


def is_row_of_days(value):
    """Whether a value is a tuple (asked, served) of two days."""
    return isinstance(value, tuple) and len(value) == 2 and is_day(value[0]) and is_day(value[1])


def parts_of(told):
    """The tuple of the formulas or sayings directly within one."""
    if told[0] in ("day", "num"):
        return ()
    if told[0] in ("on", "by", "til", "add"):
        return told[2:]
    return told[1:]


def rebuilt(told, parts):
    """What is told, with a list of other parts in the place of its parts."""
    return told[:len(told) - len(parts)] + tuple(parts)


def all_pieces(told):
    """The list of all pieces, each ahead of those in it, from the left."""
    found = []
    waiting = [told]
    while waiting:
        piece = waiting.pop()
        found.append(piece)
        waiting.extend(parts_of(piece)[::-1])
    return found


def names_in(told):
    """The sorted list of all names in a formula or saying."""
    return sorted(set([piece[1] for piece in all_pieces(told) if piece[0] == "day"]))


def rules_in(told):
    """The sorted list of all rules in a formula or saying."""
    return sorted(set([piece[1] for piece in all_pieces(told) if piece[0] in ("on", "by", "til")]))


def need_few_pieces(tolds):
    """Raise TooMany if these formulas and sayings have more than 60 pieces together."""
    if sum([len(all_pieces(told)) for told in tolds]) > MOST_PIECES:
        raise TooMany("pieces", MOST_PIECES)
