"""Tables: rules that are known, each told by a list of days."""

from math import gcd

from leadrules.basics import is_day, is_rule
from leadrules.common import is_list, need_count, need_day, need_length
from leadrules.errors import InvalidTable, InvalidWorld, TooMany


class Table:
    """A rule that repeats itself behind a length, as many days later."""

    MOST_LENGTH = 600
    MOST_ANSWERS = 600

    def __init__(self, days):
        if not is_table(days):
            raise InvalidTable(days)
        self._days = list(days)

    @property
    def length(self):
        """The number of days behind which the rule repeats itself."""
        return len(self._days)

    def days(self):
        """The list of days of which the Table is made."""
        return list(self._days)

    def asked_rows(self):
        """The list of (asked, served) for the days from 0 on, one length."""
        return list(enumerate(self._days))

    def on(self, day):
        """The day on which is served what is asked on a day."""
        need_day(day)
        turns, place = divmod(day, self.length)
        return self._days[place] + turns * self.length

    def __call__(self, day):
        return self.on(day)

    def by(self, day):
        """The first day to ask, to be served on a day or later."""
        need_day(day)
        # So many turns back the day lies behind day 0's served day, and not behind that of day L.
        turns = (day - self._days[0] - 1) // self.length
        return _many_ahead(self._days, day - turns * self.length) + turns * self.length

    def til(self, day):
        """The last day to ask, to be served on a day or earlier."""
        need_day(day)
        return self.by(day + 1) - 1

    def answers(self, day, count):
        """The list of the served days of so many asked days, from a day on."""
        need_day(day)
        need_count(count)
        if count > self.MOST_ANSWERS:
            raise TooMany("days", self.MOST_ANSWERS)
        return [self.on(day + more) for more in range(count)]

    def is_served(self, day):
        """Whether something is served on a day."""
        need_day(day)
        return self.on(self.by(day)) == day

    def leads(self):
        """The least and the greatest number of days from asked to served."""
        behind = [served - asked for asked, served in self.asked_rows()]
        return (min(behind), max(behind))

    def mean_lead(self):
        """The average of these numbers, as (above, below) in lowest terms."""
        total = sum([served - asked for asked, served in self.asked_rows()])
        shared = gcd(total, self.length)
        return (total // shared, self.length // shared)

    def fixed_days(self):
        """The rising list of the days of the first length that are served on themselves."""
        return [asked for asked, served in self.asked_rows() if asked == served]

    def moved(self, day):
        """The Table that serves so many days later."""
        need_day(day)
        return Table([served + day for served in self._days])

    def asked_later(self, day):
        """The Table that serves as this one does when asked so many days later."""
        need_day(day)
        return Table([self.on(asked + day) for asked in range(self.length)])

    def by_table(self):
        """The Table of by."""
        return Table([self.by(day) for day in range(self.length)])

    def til_table(self):
        """The Table of til."""
        return Table([self.til(day) for day in range(self.length)])

    def stretched(self, count):
        """The Table of the same rule with count times the length."""
        need_length(count)
        if count * self.length > self.MOST_LENGTH:
            raise TooMany("length", self.MOST_LENGTH)
        return Table([self.on(day) for day in range(count * self.length)])

    def shortest(self):
        """The Table of the same rule with the least length."""
        # The least length divides all others, so no other ones need to be tried.
        lengths = [length for length in range(1, self.length + 1) if self.length % length == 0]
        return Table(self._days[:min([length for length in lengths if _repeats(self, length)])])

    @classmethod
    def plain(cls, count=1):
        """The Table of a length by which all is served on the day asked."""
        need_length(count)
        if count > cls.MOST_LENGTH:
            raise TooMany("length", cls.MOST_LENGTH)
        return cls(list(range(count)))

    def is_same(self, other_table):
        """Whether both tell the same rule, of whatever lengths."""
        # A rule has one Table of the least length, so that no common length is needed.
        return self.shortest() == other_table.shortest()

    def __eq__(self, other):
        return isinstance(other, Table) and self._days == other._days

    def __repr__(self):
        return f"Table({self._days})"


def is_table(value):
    """Whether a value is a list of days of which a Table can be made."""
    if not is_list(value) or not 1 <= len(value) <= Table.MOST_LENGTH:
        return False
    if not all([is_day(day) for day in value]):
        return False
    rises = all([value[place] <= value[place + 1] for place in range(len(value) - 1)])
    return rises and value[-1] - value[0] <= len(value)


def is_world(value):
    """Whether a value is a dict from rules to Tables."""
    return isinstance(value, dict) and all([is_rule(rule) and isinstance(table, Table)
                                            for rule, table in value.items()])


def need_world(value):
    """Raise InvalidWorld unless the value is a world."""
    if not is_world(value):
        raise InvalidWorld(value)


def _many_ahead(days, day):
    """How many days of a list that never falls are earlier than a day."""
    low, high = 0, len(days)
    while low < high:
        middle = (low + high) // 2
        if days[middle] < day:
            low = middle + 1
        else:
            high = middle
    return low


def _repeats(table, length):
    """Whether a Table serves so many days later what is asked so many days later."""
    return all([table.on(asked + length) == served + length for asked, served in table.asked_rows()])
