"""Tables made of two, runs, rounds, pace, and rules known by rows."""

import random
import unittest
from fractions import Fraction

from leadrules.errors import InvalidCount, InvalidRows, InvalidTables
from leadrules.joined import (behind, earliest_with, first_above, first_parting, later, latest_with, most_above, pace,
                              reach, round_of, rounds, run_end, run_of, sooner, through, times)
from leadrules.tables import Table
from tests import slow, wrong
from tests.test_tables import SMALL, WINDOW, drawn_list
from tests.wrong import check_refused, check_too_many


def common(one, other):
    """The least common length, by trying."""
    length = 1
    while length % len(one) or length % len(other):
        length += 1
    return length


def ask(days, day, count):
    """The run of a day, asking by asking."""
    run = [day]
    for _ in range(count):
        run.append(slow.on(days, run[-1]))
    return run


def drawn_pairs(seed, many):
    draw = random.Random(seed)
    for _ in range(many):
        yield drawn_list(draw, draw.randint(1, 6), 4), drawn_list(draw, draw.randint(1, 6), 4)


class Two(unittest.TestCase):
    def test_made_of_two(self):
        for one, other in drawn_pairs(1, 120):
            made = {behind: lambda day: slow.on(one, slow.on(other, day)),
                    later: lambda day: max(slow.on(one, day), slow.on(other, day)),
                    sooner: lambda day: min(slow.on(one, day), slow.on(other, day))}
            for make, rule in made.items():
                table = make(Table(one), Table(other))
                self.assertEqual(table.length, common(one, other))
                self.assertEqual([table.on(day) for day in WINDOW], [rule(day) for day in WINDOW])

    def test_asks_the_other_one_first(self):
        week, ship = Table([0, 7, 7, 7, 7, 7, 7]), Table([3, 3, 6])
        self.assertEqual([behind(week, ship).on(5), behind(ship, week).on(5)], [14, 9])
        self.assertEqual(behind(week, ship).length, 21)

    def test_facts_of_behind(self):
        for one, other in drawn_pairs(2, 40):
            a, b = Table(one), Table(other)
            self.assertEqual(behind(a, b).by_table(), behind(b.by_table(), a.by_table()))
            self.assertEqual(behind(a, b).til_table(), behind(b.til_table(), a.til_table()))

    def test_compared(self):
        for one, other in drawn_pairs(3, 200):
            span = range(common(one, other))
            gaps = [slow.on(one, day) - slow.on(other, day) for day in span]
            self.assertEqual(most_above(Table(one), Table(other)), max(gaps))
            above = [day for day in span if gaps[day] > 0]
            self.assertEqual(first_above(Table(one), Table(other)), above[0] if above else None)
            unlike = [day for day in span if gaps[day] != 0]
            self.assertEqual(first_parting(Table(one), Table(other)), unlike[0] if unlike else None)

    def test_compared_at_the_ends(self):
        self.assertEqual(first_above(Table([0, 1, 3]), Table([0, 1, 2])), 2)
        self.assertEqual(first_above(Table([1]), Table([0])), 0)
        self.assertIsNone(first_above(Table([0]), Table([0, 2])))
        self.assertIsNone(first_parting(Table([0]), Table([0, 1, 2])))
        self.assertEqual(most_above(Table([-10 ** 12]), Table([10 ** 12])), -2 * 10 ** 12)

    def test_common_lengths(self):
        names = (behind, later, sooner, first_above, most_above, first_parting)
        for one, other, fits in ((600, 600, True), (600, 1, True), (200, 3, True), (24, 25, True), (8, 75, True),
                                 (599, 2, False), (24, 26, True), (25, 25, True), (600, 7, False), (601 - 1, 16, False),
                                 (25, 26, False), (31, 20, False), (300, 8, True), (300, 16, False)):
            for call in names:
                action = lambda: call(Table.plain(one), Table([3] * other))
                if fits:
                    action()
                else:
                    check_too_many(self, "length", 600, action)
        self.assertEqual(behind(Table.plain(24), Table([0] * 25)).length, 600)


class Runs(unittest.TestCase):
    def test_times(self):
        for days in SMALL[::4]:
            for count in (0, 1, 2, 3, 7, 20):
                table = times(Table(days), count)
                self.assertEqual(table.length, len(days))
                self.assertEqual([table.on(day) for day in (-5, 0, 1, 2)],
                                 [ask(days, day, count)[-1] for day in (-5, 0, 1, 2)])

    def test_times_many(self):
        self.assertEqual(times(Table([3, 3, 6]), 1000000).days(), [3000000, 3000000, 3000003])
        self.assertEqual(times(Table([-1]), 1000000).days(), [-1000000])
        self.assertEqual(times(Table([5] * 600), 0), Table.plain(600))
        check_too_many(self, "count", 1000000, lambda: times(Table([0]), 1000001))
        draw = random.Random(5)
        days = drawn_list(draw, 9)
        self.assertEqual(times(Table(days), 1000).on(4), ask(days, 4, 1000)[-1])

    def test_run_of(self):
        self.assertEqual(run_of(Table([0, 7, 7, 7, 7, 7, 7]), 3, 2), [3, 7, 7])
        self.assertEqual(run_of(Table([3, 3, 6]), 0, 0), [0])
        for days in SMALL[::5]:
            for day in (-4, 0, 1, 5):
                self.assertEqual(run_of(Table(days), day, 6), ask(days, day, 6))
        self.assertEqual(run_of(Table([1]), 10 ** 12, 599)[-1], 10 ** 12 + 599)
        self.assertEqual(len(run_of(Table([1]), 0, 599)), 600)
        check_too_many(self, "days", 600, lambda: run_of(Table([1]), 0, 600))

    def test_run_end(self):
        for days in SMALL[::5]:
            for day in (-4, 0, 1, 5):
                for count in (0, 1, 6):
                    self.assertEqual(run_end(Table(days), day, count), ask(days, day, count)[-1])
        self.assertEqual(run_end(Table([1]), 5, 1000000), 1000005)
        self.assertEqual(run_end(Table([1]), 5, 600), 605)
        check_too_many(self, "count", 1000000, lambda: run_end(Table([1]), 0, 1000001))

    def test_through(self):
        week, ship = Table([0, 7, 7, 7, 7, 7, 7]), Table([3, 3, 6])
        self.assertEqual(through([week, ship, week], 3), [3, 7, 9, 14])
        self.assertEqual([through([], -3), through((ship,), -3)], [[-3], [-3, 0]])
        for value in wrong.NOT_TABLE_LISTS:
            check_refused(self, InvalidTables, value, lambda: through(value, 0))

    def test_runs_never_turn(self):
        for days in SMALL[::3]:
            for day in range(len(days)):
                run = ask(days, day, 12)
                self.assertIn(run, (sorted(run), sorted(run, reverse=True)))
                self.assertEqual(run, run_of(Table(days), day, 12))

    def test_reach(self):
        for days in SMALL[::2]:
            for day in (-3, 0, 1, 2):
                run = ask(days, day, 40)
                for goal in range(-6, 9):
                    due = [count for count, at in enumerate(run) if at >= goal]
                    self.assertEqual(reach(Table(days), day, goal), due[0] if due else None)

    def test_reach_of_runs_that_rise_fall_and_stay(self):
        rising, falling, staying = Table([3, 3, 6]), Table([-1, -1]), Table([0, 7, 7, 7, 7, 7, 7])
        self.assertEqual([reach(rising, 0, goal) for goal in (-5, 0, 1, 3, 4, 10)], [0, 0, 1, 1, 2, 4])
        self.assertEqual([reach(falling, 0, 0), reach(falling, 0, 1), reach(falling, 5, -9)], [0, None, 0])
        self.assertEqual([reach(staying, 3, 7), reach(staying, 3, 8), reach(staying, 7, 7)], [1, None, 0])

    def test_reach_of_far_goals(self):
        self.assertEqual(reach(Table([1]), 0, 10 ** 12), 10 ** 12)
        self.assertEqual(reach(Table([1]), -10 ** 12, 10 ** 12), 2 * 10 ** 12)
        self.assertIsNone(reach(Table([0, 2, 2, 4]), -10 ** 12, 10 ** 12))
        slowly = Table(list(range(1, 600)) + [600])
        self.assertEqual(reach(slowly, 0, 10 ** 9), 10 ** 9)
        # A rule of 600 days with a run that goes on by 600 days in 300 askings.
        steps = Table([day // 2 * 2 + 2 for day in range(600)])
        self.assertEqual([reach(steps, 0, 10 ** 12), reach(steps, 1, 10 ** 12 + 1)],
                         [5 * 10 ** 11, 5 * 10 ** 11 + 1])


def slow_rounds(days):
    """All rounds, by looking where the run of each day comes to."""
    length, found = len(days), []
    for day in range(length):
        run = ask(days, day, 2 * length)[length:]
        for n in range(1, length + 1):
            if (run[n] - run[0]) % length == 0:
                break
        least = min(range(n), key=lambda at: run[at] % length)
        more = run[least] - run[least] % length
        told = [at - more for at in ask(days, run[least], n - 1)]
        if told not in found:
            found.append(told)
    return sorted(found)


class Rounds(unittest.TestCase):
    def test_rounds(self):
        draw = random.Random(7)
        lists = SMALL + [drawn_list(draw, length) for length in (4, 5, 6, 7, 8) for _ in range(40)]
        for days in lists:
            told = rounds(Table(days))
            self.assertEqual(told, slow_rounds(days))
            for one in told:
                self.assertEqual(one[0] % len(days), one[0])
                self.assertEqual(len({day % len(days) for day in one}), len(one))

    def test_rounds_of_one_day_and_of_many(self):
        self.assertEqual(rounds(Table([3, 3, 6])), [[0]])
        self.assertEqual(rounds(Table.plain(3)), [[0], [1], [2]])
        self.assertEqual(rounds(Table([2, 3, 4, 5])), [[0, 2], [1, 3]])
        self.assertEqual(rounds(Table([-1, 0, 1])), [[0, -1, -2]])
        self.assertEqual(rounds(Table([1, 2, 3, 4])), [[0, 1, 2, 3]])
        self.assertEqual(rounds(Table([5])), [[0]])
        self.assertEqual(len(rounds(Table.plain(600))), 600)
        self.assertEqual(rounds(Table(list(range(1, 601)))), [list(range(600))])

    def test_round_of(self):
        for days in SMALL[::2]:
            for day in (-7, 0, 1, 2, 10 ** 9):
                near = day % len(days)
                run = {at % len(days) for at in ask(days, near, 3 * len(days))[2 * len(days):]}
                told = round_of(Table(days), day)
                self.assertIn(told, slow_rounds(days))
                self.assertEqual({at % len(days) for at in told}, run)
        self.assertEqual(round_of(Table([2, 3, 4, 5]), -1), [1, 3])

    def test_pace(self):
        self.assertEqual([pace(Table([3, 3, 6])), pace(Table([0, 2])), pace(Table([-1, 0, 1])), pace(Table([2, 3, 4, 5])),
                          pace(Table([-4])), pace(Table.plain(7))], [(3, 1), (0, 1), (-1, 1), (2, 1), (-4, 1), (0, 1)])
        draw = random.Random(8)
        lists = SMALL + [drawn_list(draw, length) for length in (4, 5, 6, 7, 8) for _ in range(30)]
        for days in lists:
            for one in slow_rounds(days):
                gone = Fraction(slow.on(days, one[-1]) - one[0], len(one))
                self.assertEqual(pace(Table(days)), (gone.numerator, gone.denominator))
            for count in (1, 9):
                gone = ask(days, 0, count)[-1]
                above, below = pace(Table(days))
                self.assertLess(abs(Fraction(gone) - Fraction(count * above, below)), len(days))

    def test_pace_below_one_day(self):
        self.assertEqual(pace(Table([1, 1, 4])), (0, 1))
        self.assertEqual(pace(Table([2, 2, 3])), (3, 2))
        self.assertEqual(pace(Table([-1, -1, 0])), (-3, 2))


class Known(unittest.TestCase):
    def check_rows(self, count, rows, rules):
        """Compare with all rules of the length that serve what the rows tell."""
        fit = [days for days in rules if all(slow.on(days, asked) == served for asked, served in rows)]
        first, last = earliest_with(count, rows), latest_with(count, rows)
        if not fit:
            self.assertEqual((first, last), (None, None))
        else:
            self.assertEqual(first.days(), [min(days[at] for days in fit) for at in range(count)])
            self.assertEqual(last.days(), [max(days[at] for days in fit) for at in range(count)])
            between = [days for days in rules
                       if all(first.on(at) <= days[at] <= last.on(at) for at in range(count))]
            self.assertEqual(between, fit)

    def test_all_rules_of_small_lengths(self):
        draw = random.Random(9)
        for count in (1, 2, 3, 4):
            rules = slow.lists_of_days(count, -3 - count, 3 + 2 * count)
            for _ in range(40):
                rows = [(draw.randint(-count, 2 * count - 1), 0) for _ in range(draw.randint(1, 3))]
                rows = [(asked, draw.randint(0, 2) + asked // count * count) for asked, _ in rows]
                self.check_rows(count, rows, rules)

    def test_rows_of_rules(self):
        draw = random.Random(10)
        for _ in range(60):
            count = draw.randint(1, 4)
            days = draw.choice(slow.lists_of_days(count, -2, 2))
            rows = [(asked, slow.on(days, asked)) for asked in [draw.randint(-9, 9) for _ in range(draw.randint(1, 4))]]
            self.check_rows(count, rows, slow.lists_of_days(count, -2 - count, 2 + count))

    def test_rows_that_no_rule_serves(self):
        for rows in ([(0, 1), (0, 2)], [(0, 2), (1, 1)], [(0, 0), (3, 4)], [(0, 0), (2, 4)], [(5, 4), (-4, 3)]):
            self.assertIsNone(earliest_with(3, rows))
            self.assertIsNone(latest_with(3, rows))
        self.assertEqual(earliest_with(3, [(0, 0), (3, 3)]), Table([0, 0, 0]))
        self.assertEqual(latest_with(3, [(0, 0), (3, 3)]), Table([0, 3, 3]))

    def test_far_rows(self):
        rows = [(10 ** 12, 10 ** 12 + 5), (-10 ** 12 + 1, -10 ** 12 + 7)]
        first, last = earliest_with(10, rows), latest_with(10, rows)
        self.assertEqual([table.on(asked) - served for table in (first, last) for asked, served in rows], [0] * 4)
        self.assertEqual([first.days(), last.days()], [[5] + [7] * 9, [5, 7] + [15] * 8])

    def test_counts_and_rows(self):
        row = (4, 9)
        self.assertEqual(earliest_with(600, [row]).length, 600)
        self.assertEqual(latest_with(1, (row,)), Table([5]))
        self.assertEqual(earliest_with(3, [row] * 60).days(), [3, 6, 6])
        for call in (earliest_with, latest_with):
            check_too_many(self, "length", 600, lambda: call(601, [row]))
            many = [row] * 61
            check_refused(self, InvalidRows, many, lambda: call(601, many))
            check_refused(self, InvalidCount, 0, lambda: call(0, many))
            for value in wrong.NOT_KNOWN_ROWS:
                check_refused(self, InvalidRows, value, lambda: call(3, value))


if __name__ == "__main__":
    unittest.main()
