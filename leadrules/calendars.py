"""Calendars: worlds of known rules beside a book, and the errors of what they may not be."""

from math import lcm

from leadrules.common import need_few_pieces
from leadrules.errors import KnownRule, TooMany
from leadrules.sayings import need_saying
from leadrules.tables import need_world

MOST_LENGTH = 14


def length_of(calendars):
    """The least common multiple of the lengths of all tables of calendars."""
    length = 1
    for table in calendars.values():
        length = lcm(length, table.length)
    return length


def need_calendars(calendars):
    """Raise InvalidWorld unless the value is a world."""
    need_world(calendars)


def need_unknown(calendars, book):
    """Raise KnownRule of the least rule of calendars that stands in a book."""
    for rule in book.rules:
        if rule in calendars:
            raise KnownRule(rule)


def need_short(calendars):
    """Raise TooMany if the length of calendars is above 14."""
    if length_of(calendars) > MOST_LENGTH:
        raise TooMany("length", MOST_LENGTH)


def need_asked_beside(saying, book, calendars):
    """Raise an error unless it can be asked of a saying, a book and calendars whether it holds."""
    need_saying(saying)
    need_calendars(calendars)
    need_unknown(calendars, book)
    need_short(calendars)
    need_few_pieces([saying])
