"""Days that keep bounds, and the rings that show that none do."""

from leadrules.basics import is_count, is_day
from leadrules.common import is_list, need_length
from leadrules.errors import InvalidBounds


def least_days(many, bounds):
    """The least days that keep bounds, day 0 being 0; None where none keep them."""
    need_length(many)
    _need_bounds_below(many, bounds)
    days, _, late = _raised_days(many, bounds)
    return None if late is not None else [day - days[0] for day in days]


def are_kept(bounds, value):
    """Whether a value is a list of INTEGERS, enough of them, that keep bounds."""
    _need_bounds(bounds)
    if not is_list(value) or not all([is_day(day) for day in value]):
        return False
    return all([max(bound[:2]) < len(value) for bound in bounds]) and all_kept(bounds, value)


def all_kept(bounds, days):
    """Whether days keep bounds."""
    for first, second, most in bounds:
        if days[first] - days[second] > most:
            return False
    return True


def ring_of(many, bounds):
    """A ring of bounds; None where days keep them."""
    need_length(many)
    _need_bounds_below(many, bounds)
    _, causes, day = _raised_days(many, bounds)
    if day is None:
        return None
    # So many steps back from a day that is raised too often lie on a ring.
    for _ in range(many):
        day = causes[day][0]
    ring = [causes[day]]
    while ring[-1][0] != day:
        ring.append(causes[ring[-1][0]])
    return ring[::-1]


def is_ring(bounds, value):
    """Whether a value is a ring of bounds that stand in the list."""
    _need_bounds(bounds)
    return has_ring_form(value) and all([bound in bounds for bound in value])


def has_ring_form(value):
    """Whether a value is a ring, whatever bounds are in force."""
    if not are_bounds(value) or len(value) == 0:
        return False
    joined = [value[place - 1][1] == value[place][0] for place in range(len(value))]
    return all(joined) and sum([bound[2] for bound in value]) < 0


def are_bounds(value):
    """Whether a value is a list of bounds."""
    return is_list(value) and all([_is_bound(bound) for bound in value])


def _is_bound(value):
    """Whether a value is a bound: a tuple of two day numbers and an INTEGER."""
    if not isinstance(value, tuple) or len(value) != 3:
        return False
    return is_count(value[0]) and is_count(value[1]) and is_day(value[2])


def _need_bounds(value):
    """Raise InvalidBounds unless the value is a list of bounds."""
    if not are_bounds(value):
        raise InvalidBounds(value)


def _need_bounds_below(many, value):
    """Raise InvalidBounds unless the value is a list of bounds of day numbers below many."""
    _need_bounds(value)
    if not all([max(bound[:2]) < many for bound in value]):
        raise InvalidBounds(value)


def _raised_days(many, bounds):
    """Days raised from 0 till they keep bounds, the bound that raised each, and one raised too often, or None."""
    days = [0] * many
    causes = [None] * many
    for _ in range(many + 1):
        raised = None
        for bound in bounds:
            first, second, most = bound
            if days[first] - most > days[second]:
                days[second] = days[first] - most
                causes[second] = bound
                raised = second
        if raised is None:
            return (days, causes, None)
    return (days, causes, raised)
