"""Legs: sums of bounds between days that have rests, and days that keep bounds and have rests."""

from leadrules.basics import is_count, is_day
from leadrules.common import is_list, need_length
from leadrules.errors import InvalidBounds, InvalidLength, InvalidRests
from leadrules.leastways import all_kept, are_bounds
from leadrules.rested import RestedClosure, sum_of_leg

MOST_LENGTH = 14


def leg_sum(leg, length, rests):
    """The sum of a leg, brought down if both its ends have rests."""
    if not is_leg(leg):
        raise InvalidBounds(leg)
    _need_rest_length(length)
    if not _are_rests(rests, length):
        raise InvalidRests(rests)
    return sum_of_leg(leg, length, rests)


def legs_of(many, bounds, length, rests):
    """Legs of bounds that no days keep which have rests; None if there are none."""
    _need_rested(many, bounds, length, rests)
    return _closed(_numbers_in(bounds, rests), bounds, length, rests)[0]


def is_legs(many, bounds, length, rests, value):
    """Whether a value is legs of bounds."""
    _need_rested(many, bounds, length, rests)
    return have_legs_form(value, length, rests) and all([bound in bounds for leg in value for bound in leg])


def rested_days(many, bounds, length, rests):
    """Days that keep bounds and have rests, day 0 being 0; None if there are none."""
    _need_rested(many, bounds, length, rests)
    numbers = _numbers_in(bounds, rests)
    legs, closure = _closed(numbers, bounds, length, rests)
    if legs is not None:
        return None
    days = [0] * many
    for number, day in zip(numbers, closure.least_days()):
        days[number] = day
    return days


def are_rested_days(many, bounds, length, rests, value):
    """Whether a value is such a list of days."""
    _need_rested(many, bounds, length, rests)
    if not is_list(value) or len(value) != many or not all([is_day(day) for day in value]):
        return False
    rested = all([(value[number] - rest) % length == 0 for number, rest in rests.items()])
    return value[0] == 0 and rested and all_kept(bounds, value)


def is_leg(value):
    """Whether a value is a list of bounds, not empty, each second day the next one's first."""
    if not are_bounds(value) or len(value) == 0:
        return False
    return all([value[place][1] == value[place + 1][0] for place in range(len(value) - 1)])


def have_legs_form(value, length, rests):
    """Whether a value is legs, whatever bounds are in force."""
    if not is_list(value) or len(value) == 0 or not all([is_leg(leg) for leg in value]):
        return False
    if not all([value[place - 1][-1][1] == value[place][0][0] for place in range(len(value))]):
        return False
    if len(value) > 1 and not all([leg[0][0] in rests for leg in value]):
        return False
    return sum([sum_of_leg(leg, length, rests) for leg in value]) < 0


def _need_rest_length(value):
    """Raise InvalidLength unless the value is a COUNT from 1 to 14."""
    if not is_count(value) or not 1 <= value <= MOST_LENGTH:
        raise InvalidLength(value)


def _are_rests(value, length):
    """Whether a value is a dict from day numbers to rests by a length, with 0 for day 0."""
    if not isinstance(value, dict) or not all([is_count(number) for number in value]):
        return False
    if not all([is_count(rest) and rest < length for rest in value.values()]):
        return False
    return 0 in value and value[0] == 0


def _need_rested(many, bounds, length, rests):
    """Raise an error unless bounds and rests are such of day numbers below many."""
    need_length(many)
    if not are_bounds(bounds) or not all([max(bound[:2]) < many for bound in bounds]):
        raise InvalidBounds(bounds)
    _need_rest_length(length)
    if not _are_rests(rests, length) or max(list(rests)) >= many:
        raise InvalidRests(rests)


def _numbers_in(bounds, rests):
    """The sorted list of the day numbers that stand in bounds or have rests."""
    return sorted(set([number for bound in bounds for number in bound[:2]] + list(rests)))


def _closed(numbers, bounds, length, rests):
    """Legs of bounds, or None; and all that follows from bounds and rests, of the places of the day numbers."""
    places = {number: place for place, number in enumerate(numbers)}
    closure = RestedClosure(len(numbers), length)
    for number in sorted(rests):
        closure.take_rest(places[number], rests[number], 0)
    found = closure.tell([(places[first], places[second], most) for first, second, most in bounds], 0)
    if found is None:
        return (None, closure)
    return ([[(numbers[first], numbers[second], most) for first, second, most in leg] for leg in found[0]], closure)
