"""Tables made of two, and the runs, rounds and rows of Tables."""

from math import gcd, lcm

from leadrules.common import is_list, is_row_of_days, need_count, need_day, need_length
from leadrules.errors import InvalidRows, InvalidTables, TooMany
from leadrules.tables import Table

MOST_ASKINGS = 1000000


def behind(table, other_table):
    """The Table that asks the other one first, and this one on the day served."""
    days = range(_common_length(table, other_table))
    return Table([table.on(other_table.on(day)) for day in days])


def later(table, other_table):
    """The Table that serves when both have."""
    days = range(_common_length(table, other_table))
    return Table([max(table.on(day), other_table.on(day)) for day in days])


def sooner(table, other_table):
    """The Table that serves when one of both has."""
    days = range(_common_length(table, other_table))
    return Table([min(table.on(day), other_table.on(day)) for day in days])


def first_above(table, other_table):
    """The least COUNT on which a Table serves later than the other; None without one."""
    for day in range(_common_length(table, other_table)):
        if table.on(day) > other_table.on(day):
            return day
    return None


def most_above(table, other_table):
    """The most days by which a Table serves later than the other."""
    days = range(_common_length(table, other_table))
    return max([table.on(day) - other_table.on(day) for day in days])


def first_parting(table, other_table):
    """The least COUNT on which two Tables serve on unlike days; None without one."""
    for day in range(_common_length(table, other_table)):
        if table.on(day) != other_table.on(day):
            return day
    return None


def times(table, count):
    """The Table of a rule that is asked count times, each time on the day served."""
    _need_askings(count)
    asked = Table.plain(table.length)
    doubled = table
    while count > 0:
        if count % 2 == 1:
            asked = behind(doubled, asked)
        doubled = behind(doubled, doubled)
        count = count // 2
    return asked


def run_of(table, day, count):
    """The list of a day and of what count askings lead to."""
    need_day(day)
    need_count(count)
    if count > 599:
        raise TooMany("days", 600)
    return through([table] * count, day)


def run_end(table, day, count):
    """The day to which count askings lead."""
    need_day(day)
    return times(table, count).on(day)


def through(tables, day):
    """The list of a day and of what is served when one Table behind the other is asked."""
    if not is_list(tables) or not all([isinstance(table, Table) for table in tables]):
        raise InvalidTables(tables)
    need_day(day)
    run = [day]
    for table in tables:
        run.append(table.on(run[-1]))
    return run


def reach(table, day, goal):
    """The least COUNT of askings that lead to a goal or behind it; None if none do."""
    need_day(day)
    need_day(goal)
    if day >= goal:
        return 0
    doubled = [table]
    while doubled[-1].on(day) < goal:
        far = doubled[-1].on(day)
        # A run never turns: where it no longer rises it never comes further.
        if table.on(far) <= far:
            return None
        doubled.append(behind(doubled[-1], doubled[-1]))
    return _askings_below(doubled, day, goal) + 1


def rounds(table):
    """The sorted list of all rounds."""
    seen = {}
    found = []
    # Behind as many askings as the length each run is in its round, and each round is come to so.
    for first in sorted(set([day % table.length for day in times(table, table.length).days()])):
        if first not in seen:
            days = _round_from(table, first)
            found.append(days)
            for day in days:
                seen[day % table.length] = True
    return found


def round_of(table, day):
    """The round to which the run of a day comes."""
    need_day(day)
    days = _round_from(table, run_end(table, day, table.length))
    return _round_from(table, min([day % table.length for day in days]))


def pace(table):
    """The days that a round goes on by each asking, as (above, below) in lowest terms."""
    days = round_of(table, 0)
    gone = table.on(days[-1]) - days[0]
    shared = gcd(gone, len(days))
    return (gone // shared, len(days) // shared)


def earliest_with(count, rows):
    """The Table of a length of the earliest rule that serves what rows tell; None without one."""
    _need_rows(count, rows)
    return _serving([max([_row_ahead(row, day, count) for row in rows]) for day in range(count)], rows)


def latest_with(count, rows):
    """The Table of a length of the latest rule that serves what rows tell; None without one."""
    _need_rows(count, rows)
    return _serving([min([_row_behind(row, day, count) for row in rows]) for day in range(count)], rows)


def _common_length(table, other_table):
    """The least common length of two Tables."""
    length = lcm(table.length, other_table.length)
    if length > Table.MOST_LENGTH:
        raise TooMany("length", Table.MOST_LENGTH)
    return length


def _need_askings(count):
    """Raise an error unless count is a COUNT of askings that is not too great."""
    need_count(count)
    if count > MOST_ASKINGS:
        raise TooMany("count", MOST_ASKINGS)


def _askings_below(doubled, day, goal):
    """The most askings that lead below a goal, told Tables of 1, 2, 4 .. askings."""
    askings = 0
    far = day
    for place in range(len(doubled) - 1, -1, -1):
        askings = askings * 2
        if doubled[place].on(far) < goal:
            far = doubled[place].on(far)
            askings = askings + 1
    return askings


def _round_from(table, first):
    """The days of a round from one of them on."""
    days = [first]
    while (table.on(days[-1]) - first) % table.length != 0:
        days.append(table.on(days[-1]))
    return days


def _need_rows(count, rows):
    """Raise an error unless count is a length, and rows are some that may be known."""
    need_length(count)
    if not is_list(rows) or not 1 <= len(rows) <= 60 or not all([is_row_of_days(row) for row in rows]):
        raise InvalidRows(rows)
    if count > Table.MOST_LENGTH:
        raise TooMany("length", Table.MOST_LENGTH)


def _row_ahead(row, day, length):
    """The day on which a row is served at its last time that is not asked behind a day."""
    asked, served = row
    return served + (day - asked) // length * length


def _row_behind(row, day, length):
    """The day on which a row is served at its first time that is not asked ahead of a day."""
    asked, served = row
    return served - (asked - day) // length * length


def _serving(days, rows):
    """The Table of these days, if it serves what the rows tell; else None."""
    table = Table(days)
    if all([table.on(asked) == served for asked, served in rows]):
        return table
    return None
