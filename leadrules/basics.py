"""The judges of days, counts, rules, names and dicts of days."""


def is_day(value):
    """Whether a value is a DAY: an int that is no bool."""
    return isinstance(value, int) and not isinstance(value, bool)


def is_count(value):
    """Whether a value is a COUNT: a DAY that is at least 0."""
    return is_day(value) and value >= 0


def is_rule(value):
    """Whether a value is a rule: a letter from a to h."""
    return isinstance(value, str) and len(value) == 1 and value in "abcdefgh"


def is_name(value):
    """Whether a value is a name of a day: a letter from p to z."""
    return isinstance(value, str) and len(value) == 1 and value in "pqrstuvwxyz"


def is_days(value):
    """Whether a value is a dict from names to days."""
    return isinstance(value, dict) and all([is_name(name) and is_day(day) for name, day in value.items()])
