"""Books: logs of what was seen, and promises."""

from leadrules.basics import is_day, is_rule
from leadrules.common import is_list, need_rule
from leadrules.errors import InvalidPromise, InvalidRow, MissingPromise, MissingRow, TooMany


class Book:
    """The rows of a log and promises, kept sorted, none twice."""

    MOST_ROWS = 24
    MOST_PROMISES = 12

    def __init__(self, log, promises):
        _need_rows(log)
        _need_promises(promises)
        self._log = sorted(set(log))
        self._promises = sorted({promise: True for promise in promises}, key=promise_place)
        if len(self._log) > self.MOST_ROWS:
            raise TooMany("rows", self.MOST_ROWS)
        if len(self._promises) > self.MOST_PROMISES:
            raise TooMany("promises", self.MOST_PROMISES)

    @property
    def log(self):
        """The sorted list of the rows."""
        return list(self._log)

    @property
    def promises(self):
        """The list of the promises, those of leads first."""
        return list(self._promises)

    @property
    def rules(self):
        """The sorted list of all rules in rows and promises."""
        named = [row[0] for row in self._log] + [promise[1] for promise in self._promises]
        others = [promise[2] for promise in self._promises if promise[0] == "quick"]
        return sorted(set(named + others))

    def __eq__(self, other):
        return isinstance(other, Book) and self._log == other._log and self._promises == other._promises

    def with_row(self, row):
        """The Book with a row more."""
        need_row(row)
        return Book(self._log + [row], self._promises)

    def without_row(self, row):
        """The Book without one of its rows."""
        need_row(row)
        if row not in self._log:
            raise MissingRow(row)
        return Book([other for other in self._log if other != row], self._promises)

    def with_promise(self, promise):
        """The Book with a promise more."""
        need_promise(promise)
        return Book(self._log, self._promises + [promise])

    def without_promise(self, promise):
        """The Book without one of its promises."""
        need_promise(promise)
        if promise not in self._promises:
            raise MissingPromise(promise)
        return Book(self._log, [other for other in self._promises if other != promise])

    def joined(self, book):
        """The Book with the rows and promises of both."""
        return Book(self._log + book.log, self._promises + book.promises)

    def rows_of(self, rule):
        """The sorted list of (asked, served) of a rule's rows."""
        need_rule(rule)
        return [row[1:] for row in self._log if row[0] == rule]


def is_row(value):
    """Whether a value is a row: a tuple of a rule and two days."""
    if not isinstance(value, tuple) or len(value) != 3:
        return False
    return is_rule(value[0]) and is_day(value[1]) and is_day(value[2])


def need_row(value):
    """Raise InvalidRow unless the value is a row."""
    if not is_row(value):
        raise InvalidRow(value)


def is_promise(value):
    """Whether a value is a promise: of a lead, or of a quicker rule."""
    if not isinstance(value, tuple) or len(value) < 3 or not isinstance(value[0], str) or not is_rule(value[1]):
        return False
    if value[0] == "quick":
        return len(value) == 3 and is_rule(value[2]) and value[1] != value[2]
    return value[0] == "lead" and len(value) == 4 and _are_bounds(value[2], value[3])


def need_promise(value):
    """Raise InvalidPromise unless the value is a promise."""
    if not is_promise(value):
        raise InvalidPromise(value)


def promise_place(promise):
    """What promises are sorted by: leads first, None ahead of all INTEGERS."""
    if promise[0] == "quick":
        return (1, promise[1], promise[2])
    return (0, promise[1]) + _bound_place(promise[2]) + _bound_place(promise[3])


def _bound_place(bound):
    """What a bound of a lead is sorted by."""
    return (0, 0) if bound is None else (1, bound)


def _are_bounds(least, most):
    """Whether two values are bounds of a lead, not both None."""
    if least is None and most is None:
        return False
    return (least is None or is_day(least)) and (most is None or is_day(most))


def _need_rows(log):
    """Raise InvalidRow of the first element of a log that is no row, or of what is no list."""
    if not is_list(log):
        raise InvalidRow(log)
    for row in log:
        need_row(row)


def _need_promises(promises):
    """Raise InvalidPromise of the first element that is no promise, or of what is no list."""
    if not is_list(promises):
        raise InvalidPromise(promises)
    for promise in promises:
        need_promise(promise)
