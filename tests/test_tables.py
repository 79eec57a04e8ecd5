"""Tables: lists of days, served days, by and til, leads, and Tables made of one Table."""

import random
import unittest
from fractions import Fraction

from leadrules.errors import InvalidCount, InvalidTable
from leadrules.tables import Table, is_table, is_world
from tests import slow, wrong
from tests.wrong import check_refused, check_too_many

SMALL = [days for length in (1, 2, 3) for days in slow.lists_of_days(length, -3, 3)]
WINDOW = range(-9, 10)
FAR = (-10 ** 12, -10 ** 9 - 7, 10 ** 9 + 1, 10 ** 12)


def drawn_list(draw, length, spread=5):
    """A list of days of a length, drawn."""
    first = draw.randint(-spread, spread)
    return [first] + sorted(first + draw.randint(0, length) for _ in range(length - 1))


class Lists(unittest.TestCase):
    def test_lists_of_days(self):
        for value in ([0], (5,), [0, 2], [0, 0], [-7, -7, -4], [10 ** 12], list(range(600)), [0] * 600,
                      [0] * 599 + [600], tuple(range(600))):
            self.assertIs(is_table(value), True)
            self.assertEqual(Table(value).days(), list(value))

    def test_no_lists_of_days(self):
        for value in wrong.NOT_TABLES:
            self.assertIs(is_table(value), False)
            check_refused(self, InvalidTable, value, lambda: Table(value))

    def test_last_day_at_most_a_length_later(self):
        for length in (2, 3, 600):
            self.assertIs(is_table([4] * (length - 1) + [4 + length]), True)
            self.assertIs(is_table([4] * (length - 1) + [5 + length]), False)
            self.assertIs(is_table([4] + [4 + length] * (length - 1)), True)
            self.assertIs(is_table([5] + [4] * (length - 1)), False)

    def test_lengths(self):
        self.assertEqual([Table([3]).length, Table([0, 1]).length, Table(list(range(600))).length], [1, 2, 600])
        self.assertIs(is_table(list(range(601))), False)
        self.assertEqual(Table.MOST_LENGTH, 600)

    def test_worlds(self):
        for value in ({}, {"a": Table([0])}, {rule: Table([1]) for rule in "abcdefgh"}):
            self.assertIs(is_world(value), True)
        for value in wrong.NOT_WORLDS:
            self.assertIs(is_world(value), False)

    def test_what_was_passed_may_change(self):
        days = [0, 2]
        table = Table(days)
        days[0] = 1
        days.append(9)
        self.assertEqual(table.days(), [0, 2])
        table.days().append(4)
        table.asked_rows().clear()
        self.assertEqual((table.days(), table.asked_rows(), table.length), ([0, 2], [(0, 0), (1, 2)], 2))


class Served(unittest.TestCase):
    def test_on(self):
        week = Table([0, 7, 7, 7, 7, 7, 7])
        self.assertEqual([week.on(3), week.on(-3), week.on(0), week.on(7), week(8), week(-7)], [7, 0, 0, 7, 14, -7])
        for days in SMALL:
            table = Table(days)
            for day in WINDOW:
                self.assertEqual(table.on(day), slow.on(days, day))
                self.assertEqual(table(day), table.on(day))
                self.assertEqual(table.on(day + len(days)), table.on(day) + len(days))
                self.assertLessEqual(table.on(day), table.on(day + 1))

    def test_by_and_til(self):
        for days in SMALL:
            table = Table(days)
            for day in WINDOW:
                self.assertEqual(table.by(day), slow.by(days, day))
                self.assertEqual(table.til(day), slow.til(days, day))
                self.assertEqual(table.til(day), table.by(day + 1) - 1)

    def test_by_and_til_of_long_lists(self):
        draw = random.Random(1)
        for length in (7, 31, 600):
            days = drawn_list(draw, length)
            table = Table(days)
            for day in [draw.randint(-900, 900) for _ in range(12)]:
                self.assertEqual((table.by(day), table.til(day)), (slow.by(days, day), slow.til(days, day)))

    def test_facts_of_by_and_til(self):
        for days in SMALL[::5]:
            table = Table(days)
            for day in range(-4, 5):
                for goal in range(-4, 5):
                    self.assertEqual(table.by(goal) <= day, goal <= table.on(day))
                    self.assertEqual(day <= table.til(goal), table.on(day) <= goal)

    def test_far_days(self):
        draw = random.Random(2)
        for length in (1, 2, 7, 600):
            table = Table(drawn_list(draw, length))
            for day in FAR:
                rest = day % length
                self.assertEqual(table.on(day), table.on(rest) + day - rest)
                first, last = table.by(day), table.til(day)
                self.assertLess(table.on(first - 1), day)
                self.assertGreaterEqual(table.on(first), day)
                self.assertLessEqual(table.on(last), day)
                self.assertGreater(table.on(last + 1), day)

    def test_several_and_none_served_on_a_day(self):
        week = Table([0, 7, 7, 7, 7, 7, 7])
        self.assertEqual([week.by(7), week.til(7), week.by(3), week.til(3)], [1, 7, 1, 0])
        self.assertEqual([day for day in range(-8, 9) if week.is_served(day)], [-7, 0, 7])
        for days in SMALL:
            table = Table(days)
            served = {slow.on(days, day) for day in range(-30, 31)}
            for day in WINDOW:
                self.assertIs(table.is_served(day), day in served)

    def test_asked_rows(self):
        self.assertEqual(Table([3, 3, 6]).asked_rows(), [(0, 3), (1, 3), (2, 6)])
        self.assertEqual(Table((5,)).asked_rows(), [(0, 5)])

    def test_answers(self):
        ship = Table([3, 3, 6])
        self.assertEqual(ship.answers(-1, 5), [3, 3, 3, 6, 6])
        self.assertEqual([ship.answers(4, 0), ship.answers(4, 1), len(ship.answers(-300, 600))], [[], [6], 600])
        for days in SMALL[::7]:
            self.assertEqual(Table(days).answers(-5, 11), [slow.on(days, day) for day in range(-5, 6)])
        check_too_many(self, "days", 600, lambda: ship.answers(0, 601))
        check_refused(self, InvalidCount, -1, lambda: ship.answers(0, -1))


class Numbers(unittest.TestCase):
    def test_leads(self):
        self.assertEqual([Table([0, 7, 7, 7, 7, 7, 7]).leads(), Table([-5]).leads()], [(0, 6), (-5, -5)])
        for days in SMALL:
            leads = [slow.on(days, day) - day for day in range(-12, 13)]
            self.assertEqual(Table(days).leads(), (min(leads), max(leads)))

    def test_mean_lead(self):
        self.assertEqual([Table([0, 2]).mean_lead(), Table([3]).mean_lead(), Table([0, 1]).mean_lead(),
                          Table([-3, -3]).mean_lead(), Table([1, 1, 1, 1]).mean_lead()],
                         [(1, 2), (3, 1), (0, 1), (-7, 2), (-1, 2)])
        for days in SMALL:
            mean = Fraction(sum(slow.on(days, day) - day for day in range(len(days))), len(days))
            self.assertEqual(Table(days).mean_lead(), (mean.numerator, mean.denominator))

    def test_fixed_days(self):
        self.assertEqual([Table([0, 7, 7, 7, 7, 7, 7]).fixed_days(), Table([1, 2]).fixed_days(),
                          Table([0, 1, 2]).fixed_days(), Table([-1, 1, 1]).fixed_days()], [[0], [], [0, 1, 2], [1]])
        for days in SMALL:
            fixed = [day for day in range(len(days)) if slow.on(days, day) == day]
            self.assertEqual(Table(days).fixed_days(), fixed)


class Made(unittest.TestCase):
    def check_rule(self, table, length, rule):
        self.assertEqual(table.length, length)
        self.assertEqual([table.on(day) for day in WINDOW], [rule(day) for day in WINDOW])

    def test_moved_and_asked_later(self):
        for days in SMALL[::3]:
            table, length = Table(days), len(days)
            for more in (-10 ** 9, -4, -1, 0, 1, 2, 5):
                self.check_rule(table.moved(more), length, lambda day: slow.on(days, day) + more)
                if abs(more) < 100:
                    self.check_rule(table.asked_later(more), length, lambda day: slow.on(days, day + more))
        self.assertEqual(Table([0, 2]).asked_later(10 ** 9).days(), [10 ** 9, 10 ** 9 + 2])

    def test_by_and_til_tables(self):
        for days in SMALL:
            self.check_rule(Table(days).by_table(), len(days), lambda day: slow.by(days, day))
            self.check_rule(Table(days).til_table(), len(days), lambda day: slow.til(days, day))

    def test_stretched(self):
        for days in SMALL[::3]:
            for count in (1, 2, 5):
                self.check_rule(Table(days).stretched(count), len(days) * count, lambda day: slow.on(days, day))
        self.assertEqual(Table([0, 2]).stretched(300).length, 600)
        self.assertEqual(Table([1] * 600).stretched(1).days(), [1] * 600)
        check_too_many(self, "length", 600, lambda: Table([0, 2]).stretched(301))
        check_too_many(self, "length", 600, lambda: Table([1] * 600).stretched(2))
        for value in wrong.NOT_LENGTHS:
            check_refused(self, InvalidCount, value, lambda: Table([0]).stretched(value))

    def test_shortest(self):
        self.assertEqual([Table([0, 2, 2, 4]).shortest(), Table([5, 6, 7]).shortest(), Table([0, 2, 2]).shortest()],
                         [Table([0, 2]), Table([5]), Table([0, 2, 2])])
        draw = random.Random(3)
        for length in (1, 2, 3, 4, 6, 12):
            for _ in range(20):
                days = drawn_list(draw, draw.choice([part for part in (1, 2, 3, 4, 6, 12) if length % part == 0]), 2)
                long = Table(days).stretched(length // len(days))
                for least in range(1, length + 1):
                    if all(slow.on(days, day + least) == slow.on(days, day) + least for day in range(24)):
                        break
                self.assertEqual(long.shortest().days(), [slow.on(days, day) for day in range(least)])

    def test_plain(self):
        self.assertEqual([Table.plain().days(), Table.plain(3).days(), Table.plain(count=2).days()],
                         [[0], [0, 1, 2], [0, 1]])
        self.assertEqual(Table.plain(600).days(), list(range(600)))
        check_too_many(self, "length", 600, lambda: Table.plain(601))
        for value in wrong.NOT_LENGTHS:
            check_refused(self, InvalidCount, value, lambda: Table.plain(value))
        self.assertTrue(all(Table.plain(4).on(day) == day for day in WINDOW))


class Alike(unittest.TestCase):
    def test_is_same(self):
        self.assertIs(Table([0, 2]).is_same(Table([0, 2, 2, 4, 4, 6])), True)
        self.assertIs(Table([0, 2]).is_same(Table([0, 2, 2])), False)
        self.assertIs(Table.plain(599).is_same(Table.plain(600)), True)
        self.assertIs(Table([0] * 600).is_same(Table([0] * 599)), False)
        lists = SMALL[::6] + [days + [day + len(days) for day in days] for days in SMALL[::12]]
        for days in lists:
            for others in lists:
                same = all(slow.on(days, day) == slow.on(others, day) for day in range(-12, 13))
                self.assertIs(Table(days).is_same(Table(others)), same)

    def test_equal(self):
        self.assertTrue(Table([0, 2]) == Table((0, 2)))
        self.assertFalse(Table([0, 2]) != Table((0, 2)))
        for other in (Table([0, 2, 2, 4]), Table([0, 1]), [0, 2], (0, 2), None, 3, "Table([0, 2])", {}):
            self.assertFalse(Table([0, 2]) == other)
            self.assertTrue(Table([0, 2]) != other)

    def test_repr(self):
        self.assertEqual([repr(Table([0, 2])), repr(Table((-7,)))], ["Table([0, 2])", "Table([-7])"])


if __name__ == "__main__":
    unittest.main()
