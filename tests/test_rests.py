"""Calendars' lengths, read days, bounds from the beginning, and what rests tell."""

import random
import unittest

from leadrules.books import Book
from leadrules.bounds import bounds_of
from leadrules.daylists import days_of
from leadrules.errors import InvalidDay, InvalidRests, InvalidSaying, InvalidWorld, KnownRule
from leadrules.rests import calendar_length, known_bounds, read_days, rest_bounds
from leadrules.tables import Table
from tests import drawn, known_books, slowknown, wrong
from tests.test_known import put
from tests.test_sayings import nots
from tests.wrong import check_missing, check_refused, check_too_many

X, Y = ("day", "x"), ("day", "y")
ZERO = ("num", 0)
EMPTY = Book([], [])
WEEK = {"c": Table([0, 4, 4, 4, 5, 5, 6])}
LONG = {"a": Table([0] * 3), "b": Table([0] * 5)}


def on(rule, formula):
    return ("on", rule, formula)


def of_length(*lengths):
    """Calendars of tables of these lengths."""
    return {rule: Table(list(range(length))) for rule, length in zip("abcdefgh", lengths)}


class Length(unittest.TestCase):
    def test_least_common_multiples(self):
        for lengths, due in (((), 1), ((1,), 1), ((1, 1, 1), 1), ((2,), 2), ((14,), 14), ((2, 7), 14), ((7, 2, 14, 1), 14),
                             ((4, 6), 12), ((3, 4), 12), ((13,), 13), ((2, 5), 10), ((1, 2, 7, 14, 7, 2, 1, 14), 14)):
            self.assertEqual(calendar_length(of_length(*lengths)), due)

    def test_too_many(self):
        for lengths in ((15,), (3, 5), (16,), (4, 7), (2, 8, 3), (600,), (599, 600), (13, 2)):
            check_too_many(self, "length", 14, lambda: calendar_length(of_length(*lengths)))

    def test_the_length_of_the_table_that_is_told(self):
        """A table that repeats itself within its length has its length all the same."""
        self.assertEqual(calendar_length({"c": Table([0, 1, 2, 3])}), 4)
        check_too_many(self, "length", 14, lambda: calendar_length({"c": Table.plain(15)}))


class ReadDays(unittest.TestCase):
    def test_on(self):
        saying = ("le", on("c", X), on("a", on("c", Y)))
        listed = days_of(saying)
        self.assertEqual(read_days(saying, EMPTY, WEEK), sorted([listed.index(X), listed.index(Y)]))
        self.assertEqual(read_days(saying, EMPTY, {"a": Table([0])}), [listed.index(on("c", Y))])
        self.assertEqual(read_days(saying, EMPTY, {}), [])
        self.assertEqual(read_days(saying, EMPTY, {"b": Table([0, 2])}), [])

    def test_by_and_til_are_read_themselves(self):
        for word in ("by", "til"):
            saying = ("le", (word, "c", X), X)
            self.assertEqual(read_days(saying, EMPTY, WEEK), [days_of(saying).index((word, "c", X))])
            shift = -1 if word == "by" else 1
            day = read_days(saying, EMPTY, WEEK)[0]
            for rest in range(7):
                found = rest_bounds(saying, EMPTY, WEEK, day, rest)
                served = [WEEK["c"].on(rest), WEEK["c"].on(rest + shift)]
                helpers = [days_of(saying).index(on("c", part)) for part in (
                    (word, "c", X), ("add", shift, (word, "c", X)))]
                self.assertEqual(found, sorted([(helper, day, answer - rest) for helper, answer in zip(helpers, served)]
                                               + [(day, helper, rest - answer) for helper, answer in zip(helpers, served)]))

    def test_day_zero(self):
        saying = ("le", on("c", ZERO), X)
        self.assertEqual(read_days(saying, EMPTY, WEEK), [0])
        self.assertEqual(rest_bounds(saying, EMPTY, WEEK, 0, 0), [(0, 1, 0), (1, 0, 0)])
        self.assertEqual(rest_bounds(saying, EMPTY, WEEK, 0, 6), [(0, 1, 0), (1, 0, 0)])
        self.assertEqual(rest_bounds(saying, EMPTY, WEEK, 0, 1), [(0, 1, -3), (1, 0, 3)])
        self.assertLessEqual({(0, 1, 0), (1, 0, 0)}, set(known_bounds(saying, EMPTY, WEEK)))
        # Where day 0 is not read, its rest tells nothing.
        other = ("le", on("c", ("num", 1)), X)
        self.assertEqual(read_days(other, EMPTY, WEEK), [1])
        self.assertEqual(known_bounds(other, EMPTY, WEEK), sorted(bounds_of(other, EMPTY) + [(2, 1, 3), (1, 2, 0)]))

    def test_rows_are_no_places_of_calendars(self):
        """Rows make places on day 0, but of rules that are in no calendar."""
        saying = ("le", on("c", X), on("a", Y))
        self.assertEqual(read_days(saying, Book([("a", 0, 2), ("b", 0, 9)], []), WEEK), [1])


class Bounds(unittest.TestCase):
    def test_leads(self):
        saying = ("le", on("c", X), Y)
        book = Book([("a", 0, 2)], [("lead", "a", 1, 3)])
        more = [(2, 1, 3), (1, 2, 0)]
        self.assertEqual(known_bounds(saying, book, WEEK), sorted(set(bounds_of(saying, book) + more)))
        self.assertEqual(known_bounds(saying, book, {}), bounds_of(saying, book))

    def test_doubled_ones_stand_once(self):
        """All leads alike: both bounds of each place are those that each rest tells."""
        saying = ("le", on("c", ZERO), on("c", ("add", 0, ZERO)))
        found = known_bounds(saying, EMPTY, {"c": Table([3])})
        self.assertEqual(len(found), len(set(found)))
        self.assertEqual(found, sorted(found))
        self.assertEqual(known_bounds(("le", on("c", ZERO), ZERO), EMPTY, {"c": Table([3])}), [(0, 1, -3), (1, 0, 3)])
        # More bounds that are those of the saying itself.
        saying = ("and", ("le", on("c", X), X), ("le", ("add", 0, X), X))
        self.assertEqual(known_bounds(saying, EMPTY, {"c": Table([0, 1])}), sorted([(2, 1, 0), (1, 2, 0), (3, 1, 0), (1, 3, 0)]))

    def test_slow_reckoning(self):
        draw = random.Random(310)
        zero = 0
        for _ in range(700):
            calendars = drawn.lists(draw, draw.choice(("", "c", "cd")), 3)
            log = [drawn.row(draw, "ab") for _ in range(draw.randint(0, 3))]
            promises = [drawn.promise(draw, "ab") for _ in range(draw.randint(0, 3))]
            saying = drawn.saying(draw, 1, 2, "xy", "acd")
            saying = put(saying, "x", ZERO) if draw.random() < 0.3 else saying
            if known_books.pieces(saying) > 60:
                continue
            book, world = Book(log, promises), drawn.world(calendars)
            self.assertEqual(calendar_length(world), slowknown.length_of(calendars) if calendars else 1)
            read = read_days(saying, book, world)
            self.assertEqual(read, slowknown.read_days(saying, calendars))
            self.assertEqual(known_bounds(saying, book, world), slowknown.known_bounds(saying, log, promises, calendars))
            zero += 0 in read
            for day in read:
                for rest in range(calendar_length(world)):
                    self.assertEqual(rest_bounds(saying, book, world, day, rest),
                                     slowknown.rest_bounds(saying, calendars, day, rest))
        self.assertGreater(zero, 10)


class Refused(unittest.TestCase):
    SAYING = ("le", on("c", X), Y)

    def calls(self):
        return [read_days, known_bounds, lambda *told: rest_bounds(*told, 1, 0)]

    def test_worlds(self):
        for value in wrong.NOT_WORLDS:
            check_refused(self, InvalidWorld, value, lambda: calendar_length(value))
            for call in self.calls():
                check_refused(self, InvalidWorld, value, lambda: call(nots(70), EMPTY, value))

    def test_rules_of_the_book(self):
        for book in (Book([("d", 0, 1), ("c", 0, 1)], []), Book([], [("lead", "c", 1, None)]),
                     Book([], [("quick", "d", "c")]), Book([], [("quick", "c", "a")])):
            for call in self.calls():
                check_missing(self, KnownRule, "rule", "c", lambda: call(nots(70), book, dict(LONG, c=Table([0]))
                                                                         if "a" not in book.rules else WEEK))
        # The least one of several, ahead of TooMany.
        book = Book([("f", 0, 1), ("d", 0, 1)], [("quick", "e", "g")])
        for call in self.calls():
            check_missing(self, KnownRule, "rule", "e",
                          lambda: call(self.SAYING, book, {rule: Table([0] * 15) for rule in "hgfe"}))

    def test_sequence(self):
        for call in self.calls():
            check_refused(self, InvalidSaying, None, lambda: call(None, EMPTY, None))
            check_too_many(self, "length", 14, lambda: call(nots(70), EMPTY, LONG))
            check_too_many(self, "pieces", 60, lambda: call(nots(58), EMPTY, WEEK))
            call(("and", self.SAYING, nots(50)), EMPTY, WEEK)

    def test_day_and_rest_behind_all_others(self):
        for value in wrong.NOT_DAYS + [0, 2, 3, -1, 9, 600]:
            check_refused(self, InvalidDay, value, lambda: rest_bounds(self.SAYING, EMPTY, WEEK, value, None))
            check_too_many(self, "length", 14, lambda: rest_bounds(nots(70), EMPTY, LONG, value, None))
            check_too_many(self, "pieces", 60, lambda: rest_bounds(nots(58), EMPTY, WEEK, value, None))
        for value in wrong.NOT_COUNTS + [7, 8, 600]:
            check_refused(self, InvalidRests, value, lambda: rest_bounds(self.SAYING, EMPTY, WEEK, 1, value))
        self.assertEqual(len(rest_bounds(self.SAYING, EMPTY, WEEK, 1, 6)), 2)


if __name__ == "__main__":
    unittest.main()
