"""Calendars beside a saying and a book: the days that are read, and what their rests tell."""

from leadrules.basics import is_count, is_day
from leadrules.calendars import length_of, need_asked_beside, need_calendars, need_short
from leadrules.errors import InvalidDay, InvalidRests
from leadrules.knownproblems import KnownProblem


def calendar_length(calendars):
    """The least common multiple of the lengths of the tables of calendars."""
    need_calendars(calendars)
    need_short(calendars)
    return length_of(calendars)


def read_days(saying, book, calendars):
    """The sorted list of the numbers of the days that are read."""
    return _problem_of(saying, book, calendars).read


def known_bounds(saying, book, calendars):
    """The sorted list of all bounds from the beginning."""
    return _problem_of(saying, book, calendars).bounds


def rest_bounds(saying, book, calendars, day, rest):
    """The sorted list of the bounds that a rest of a read day tells."""
    problem = _problem_of(saying, book, calendars)
    if not is_day(day) or day not in problem.read:
        raise InvalidDay(day)
    if not is_count(rest) or rest >= problem.many_rests:
        raise InvalidRests(rest)
    return problem.rest_bounds(day, rest)


def _problem_of(saying, book, calendars):
    """The problem of a saying, a book and calendars, once it is sure that there is one."""
    need_asked_beside(saying, book, calendars)
    return KnownProblem(saying, book, calendars)
