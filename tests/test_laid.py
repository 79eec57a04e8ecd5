"""Pictures laid to whole rules, and the sayings that they break."""

import random
import unittest

from leadrules.books import Book
from leadrules.errors import InvalidPicture, InvalidSaying, MissingName
from leadrules.laid import (base, is_break, laid_by, laid_days, laid_holds, laid_on, laid_til, laid_value, trimmed)
from leadrules.pictures import is_picture, picture_of
from tests import drawn, slow, wrong
from tests.test_beneath import quick
from tests.test_formulas import tower
from tests.test_pictures import drawn_book
from tests.test_sayings import nots
from tests.wrong import check_missing, check_refused, check_too_many

X, Y = ("day", "x"), ("day", "y")
EMPTY = Book([], [])
SPAN = range(-9, 10)


def drawn_pictures(seed, many, rules="abc"):
    """Answers, logs and promises that do not clash."""
    draw = random.Random(seed)
    found = 0
    while found < many:
        (log, promises), answers = drawn_book(draw, rules), drawn.answers(draw, rules)
        if slow.clash(answers, log, promises) is None:
            found += 1
            yield answers, log, promises


def slow_day(told, days, answers, log, promises):
    """The day of a formula by laid rules, going from day to day for by and til."""
    word = told[0]
    if word in ("day", "num"):
        return days[told[1]] if word == "day" else told[1]
    if word in ("late", "soon"):
        both = [slow_day(part, days, answers, log, promises) for part in told[1:]]
        return max(both) if word == "late" else min(both)
    day = slow_day(told[2], days, answers, log, promises)
    if word == "add":
        return told[1] + day
    return slow_rule(word, told[1], day, answers, log, promises)


def slow_rule(word, rule, day, answers, log, promises):
    """on, by or til of a laid rule, by going from day to day."""
    def on(at):
        return slow.laid_on(answers, log, promises, rule, at)

    if word == "on":
        return on(day)
    at = day - slow.base(answers, log, promises, rule)
    while on(at) >= day + (word == "til"):
        at -= 1
    while on(at) < day + (word == "til"):
        at += 1
    return at if word == "by" else at - 1


def slow_holds(saying, days, answers, log, promises):
    """Whether a saying holds by laid rules."""
    if saying[0] == "le":
        first, second = [slow_day(side, days, answers, log, promises) for side in saying[1:]]
        return first <= second
    truths = [slow_holds(part, days, answers, log, promises) for part in saying[1:]]
    return not truths[0] if saying[0] == "not" else all(truths) if saying[0] == "and" else any(truths)


class Base(unittest.TestCase):
    def test_low(self):
        book = Book([], quick("ab") + [("lead", "a", 2, None), ("lead", "b", 1, None), ("lead", "c", -7, None)])
        self.assertEqual([base(({}, {}), book, rule) for rule in "abc"], [2, 2, -7])

    def test_one_number_for_all_others(self):
        book = Book([("d", 5, 3)], [("lead", "a", 2, None), ("lead", "b", None, -4)])
        self.assertEqual([base(({}, {}), book, rule) for rule in "abcdh"], [2, -4, -4, -4, -4])
        self.assertEqual(base(({}, {"c": [(4, -2)]}), book, "h"), -6)
        self.assertEqual(base(({}, {"c": [(4, 9)]}), Book([("a", 0, 3)], [("lead", "b", 4, 7)]), "c"), 0)
        self.assertEqual(base(({}, {}), Book([], [("lead", "a", -3, None)]), "b"), -3)
        self.assertEqual(base(({}, {}), Book([("a", 1, -9)], []), "b"), -10)
        self.assertEqual(base(({"x": -50}, {}), EMPTY, "a"), 0)

    def test_slow_reckoning(self):
        for answers, log, promises in drawn_pictures(71, 150):
            for rule in "abch":
                self.assertEqual(base(({}, answers), Book(log, promises), rule),
                                 slow.base(answers, log, promises, rule))


class Laid(unittest.TestCase):
    def test_on_by_and_til(self):
        book = Book([("a", 0, 2)], quick("ab") + [("lead", "a", 1, None)])
        picture = ({}, {"b": [(3, 9)]})
        self.assertEqual([laid_on(picture, book, "b", day) for day in (-1, 0, 1, 2, 3, 8, 9)], [0, 2, 2, 3, 9, 9, 10])
        self.assertEqual([laid_on(picture, book, "a", day) for day in (-1, 0, 1, 2, 3)], [0, 2, 2, 3, 4])
        self.assertEqual([laid_by(picture, book, "b", day) for day in (0, 1, 2, 3, 4, 9, 10)], [-1, 0, 0, 2, 3, 3, 9])
        self.assertEqual([laid_til(picture, book, "b", day) for day in (0, 1, 2, 3, 8, 9)], [-1, -1, 1, 2, 2, 8])
        self.assertEqual(laid_days(picture, book, "b", 1, 4), [2, 3, 9, 9])
        self.assertEqual([laid_days(picture, book, "b", 1, 0), laid_days(picture, book, "b", 1, 1)], [[], [2]])

    def test_rules_that_nothing_names(self):
        self.assertEqual([laid_on(({}, {}), EMPTY, "h", 4), laid_by(({}, {}), EMPTY, "h", 4),
                          laid_til(({}, {}), EMPTY, "h", 4)], [4, 4, 4])
        self.assertEqual(laid_on(({}, {"a": [(0, -3)]}), EMPTY, "h", 4), 1)
        self.assertEqual(laid_on(({}, {"a": [(0, 9)]}), EMPTY, "h", 4), 4)

    def test_going_from_day_to_day(self):
        for answers, log, promises in drawn_pictures(72, 60):
            book, picture = Book(log, promises), ({}, answers)
            for rule in "abcd":
                served = [slow.laid_on(answers, log, promises, rule, day) for day in SPAN]
                self.assertEqual([laid_on(picture, book, rule, day) for day in SPAN], served)
                self.assertEqual(laid_days(picture, book, rule, SPAN[0], len(SPAN)), served)
                for day in range(-5, 6):
                    self.assertEqual(laid_by(picture, book, rule, day),
                                     slow_rule("by", rule, day, answers, log, promises))
                    self.assertEqual(laid_til(picture, book, rule, day),
                                     slow_rule("til", rule, day, answers, log, promises))

    def test_laid_rules_keep_the_book(self):
        for answers, log, promises in drawn_pictures(73, 80):
            book, picture = Book(log, promises), ({}, answers)
            laid = {rule: dict(zip(SPAN, laid_days(picture, book, rule, SPAN[0], len(SPAN)))) for rule in "abcd"}
            for rule in laid:
                self.assertTrue(all(laid[rule][day] <= laid[rule][day + 1] for day in SPAN[:-1]))
                self.assertLess(laid_on(picture, book, rule, -10 ** 9), -10 ** 8)
                self.assertGreater(laid_on(picture, book, rule, 10 ** 9), 10 ** 8)
                for asked, served in slow.places(answers, log).get(rule, []):
                    self.assertEqual(laid[rule][asked], served)
            for promise in promises:
                if promise[0] == "quick":
                    self.assertTrue(all(laid[promise[1]][day] <= laid[promise[2]][day] for day in SPAN))
                else:
                    leads = [laid[promise[1]][day] - day for day in SPAN]
                    self.assertTrue(promise[2] is None or promise[2] <= min(leads))
                    self.assertTrue(promise[3] is None or max(leads) <= promise[3])

    def test_far_days(self):
        picture = ({}, {"a": [(10 ** 12, 10 ** 12 + 5), (10 ** 12 + 2, 10 ** 12 + 9)]})
        self.assertEqual([laid_on(picture, EMPTY, "a", 10 ** 12 + 1), laid_by(picture, EMPTY, "a", 10 ** 12 + 6),
                          laid_til(picture, EMPTY, "a", 10 ** 12 + 5), laid_on(picture, EMPTY, "a", -10 ** 12)],
                         [10 ** 12 + 5, 10 ** 12 + 2, 10 ** 12 + 1, -10 ** 12])

    def test_many_days(self):
        self.assertEqual(laid_days(({}, {}), EMPTY, "a", -3, 1000), list(range(-3, 997)))
        check_too_many(self, "days", 1000, lambda: laid_days(({}, {}), EMPTY, "a", -3, 1001))

    def test_pictures_of_the_book(self):
        book = Book([("a", 0, 2)], [("lead", "b", 0, 3)])
        for picture in (({}, {"a": [(0, 3)]}), ({}, {"b": [(0, 4)]}), ({}, {"a": [(-1, 3)]})):
            for call in (lambda: base(picture, book, "a"), lambda: laid_on(picture, book, "a", 0),
                         lambda: laid_by(picture, book, "a", 0), lambda: laid_til(picture, book, None, 0),
                         lambda: laid_days(picture, book, "a", None, 2000), lambda: laid_value(picture, book, X),
                         lambda: laid_holds(picture, book, ("le", X, Y))):
                check_refused(self, InvalidPicture, picture, call)


class Values(unittest.TestCase):
    def test_slow_reckoning(self):
        draw = random.Random(74)
        for answers, log, promises in drawn_pictures(75, 120):
            days = drawn.days(draw)
            book, picture = Book(log, promises), (days, answers)
            formula, saying = drawn.formula(draw, 3, rules="abcd"), drawn.saying(draw, 2, 1, rules="abcd")
            self.assertEqual(laid_value(picture, book, formula), slow_day(formula, days, answers, log, promises))
            self.assertIs(laid_holds(picture, book, saying), slow_holds(saying, days, answers, log, promises))

    def test_missing_names(self):
        picture = ({"x": 1}, {})
        told = ("late", ("day", "z"), ("on", "a", ("late", X, Y)))
        check_missing(self, MissingName, "name", "y", lambda: laid_value(picture, EMPTY, told))
        check_missing(self, MissingName, "name", "x", lambda: laid_value(({}, {}), EMPTY, told))
        check_missing(self, MissingName, "name", "y", lambda: laid_holds(picture, EMPTY, ("le", X, told)))
        check_missing(self, MissingName, "name", "y", lambda: laid_holds(picture, EMPTY, nots(58)))
        check_missing(self, MissingName, "name", "y", lambda: laid_value(picture, EMPTY, tower(60, Y)))

    def test_sixty_pieces(self):
        picture = ({"x": 1, "y": 2}, {})
        self.assertEqual(laid_value(picture, EMPTY, tower(59)), 60)
        check_too_many(self, "pieces", 60, lambda: laid_value(picture, EMPTY, tower(60)))
        self.assertIs(laid_holds(picture, EMPTY, nots(57)), False)
        check_too_many(self, "pieces", 60, lambda: laid_holds(picture, EMPTY, nots(58)))


class Breaks(unittest.TestCase):
    def test_is_break(self):
        book = Book([("a", 0, 2)], [("lead", "a", 1, None)])
        saying = ("le", ("on", "a", X), ("add", 1, X))
        self.assertIs(is_break(({"x": 0}, {}), saying, book), True)
        self.assertIs(is_break(({"x": 0, "p": 3}, {"b": [(0, 0)], "c": []}), saying, book), True)
        self.assertIs(is_break(({"x": 1}, {}), saying, book), False)
        self.assertIs(is_break(({"x": 1}, {"a": [(1, 5)]}), saying, book), True)
        self.assertIs(is_break(({}, {"a": [(1, 5)]}), saying, book), False)
        self.assertIs(is_break(({"y": 1}, {"a": [(1, 5)]}), saying, book), False)
        # These are no pictures of the book.
        self.assertIs(is_break(({"x": 1}, {"a": [(1, 1)]}), ("not", saying), book), False)
        self.assertIs(is_break(({"x": 0}, {"a": [(0, 3)]}), saying, book), False)
        self.assertIs(is_break(({"x": 0}, {}), saying, Book([], [("lead", "b", 5, 4)])), False)
        for value in wrong.ANYTHING:
            self.assertIs(is_break(value, saying, book), False)

    def test_is_break_refuses(self):
        for value in (({"x": 0}, {}), None):
            for saying in wrong.NOT_SAYINGS:
                check_refused(self, InvalidSaying, saying, lambda: is_break(value, saying, EMPTY))
            check_too_many(self, "pieces", 60, lambda: is_break(value, nots(58), EMPTY))
        self.assertIs(is_break(({"x": 0, "y": 1}, {}), nots(57), EMPTY), True)

    def test_slow_reckoning(self):
        draw = random.Random(76)
        truths = {True: 0, False: 0}
        for answers, log, promises in drawn_pictures(77, 200):
            days, saying = drawn.days(draw, draw.choice(["xyz", "xy", "xyzp"])), drawn.saying(draw, 2, 2, "xy", "abc")
            if len(slow.pieces(saying)) <= 60:
                due = not slow_holds(saying, days, answers, log, promises)
                self.assertIs(is_break((days, answers), saying, Book(log, promises)), due)
                truths[due] += 1
        self.assertTrue(min(truths.values()) > 40, truths)

    def test_worlds_that_break(self):
        draw = random.Random(78)
        for _ in range(60):
            saying, days, lists = drawn.saying(draw, 2, 1), drawn.days(draw), drawn.lists(draw)
            world = drawn.world(lists)
            picture = picture_of(world, days, saying)
            self.assertIs(is_break(picture, saying, EMPTY), not slow.holds(saying, days, lists))


def slow_trimmed(days, answers, log, promises, saying):
    """The answers that are left, going through them by rule, then asked."""
    left = {rule: list(answers[rule]) for rule in answers}
    for rule in sorted(answers):
        for row in sorted(answers[rule]):
            fewer = {other: [told for told in left[other] if other != rule or told != row] for other in left}
            if slow.clash(fewer, log, promises) is None and not slow_holds(saying, days, fewer, log, promises):
                left = fewer
    return {rule: left[rule] for rule in left if left[rule]}


class Trimmed(unittest.TestCase):
    def test_trimmed(self):
        saying = ("le", ("on", "a", X), X)
        picture = ({"y": 9, "x": 3}, {"b": [(0, 1)], "a": ((0, 4), (2, 5), (8, 8)), "c": []})
        self.assertEqual(trimmed(picture, saying, EMPTY), ({"x": 3, "y": 9}, {"a": [(2, 5)]}))
        self.assertEqual(list(trimmed(picture, saying, EMPTY)[0]), ["x", "y"])
        self.assertEqual(trimmed(({"x": 3}, {}), ("not", ("le", X, X)), EMPTY), ({"x": 3}, {}))

    def test_answers_of_two_rules_are_left(self):
        saying = ("or", ("le", ("on", "a", X), X), ("le", ("on", "b", X), X))
        made = trimmed(({"x": 3}, {"b": [(0, 9), (1, 9)], "c": [(0, 0)], "a": [(0, 9)]}), saying, EMPTY)
        self.assertEqual(made, ({"x": 3}, {"a": [(0, 9)], "b": [(1, 9)]}))
        self.assertEqual(list(made[1]), ["a", "b"])

    def test_the_told_sequence(self):
        # Each of both would do, so the first one goes.
        saying = ("and", ("le", ("on", "a", X), X), ("le", ("on", "b", X), X))
        both = {"b": [(0, 9)], "a": [(0, 9)]}
        self.assertEqual(trimmed(({"x": 3}, both), saying, EMPTY), ({"x": 3}, {"b": [(0, 9)]}))
        rows = {"a": [(0, 9), (1, 9), (2, 9)]}
        self.assertEqual(trimmed(({"x": 3}, rows), ("le", ("on", "a", X), X), EMPTY), ({"x": 3}, {"a": [(2, 9)]}))

    def test_what_the_log_tells_goes(self):
        book = Book([("a", 0, 9)], [])
        self.assertEqual(trimmed(({"x": 3}, {"a": [(0, 9)]}), ("le", ("on", "a", X), X), book), ({"x": 3}, {}))

    def test_answers_that_only_the_base_needs(self):
        # With the answer of c all rules without a low serve ten days earlier.
        saying = ("le", X, ("on", "a", X))
        picture = ({"x": 3}, {"c": [(10, 0)], "d": [(0, 0)]})
        self.assertEqual(trimmed(picture, saying, EMPTY), ({"x": 3}, {"c": [(10, 0)]}))

    def test_slow_reckoning(self):
        draw = random.Random(79)
        checked = 0
        for answers, log, promises in drawn_pictures(80, 600):
            days, saying = drawn.days(draw, "xyz", 3), drawn.saying(draw, 1, 1, "xyz", "abc")
            picture, book = (days, answers), Book(log, promises)
            if slow_holds(saying, days, answers, log, promises):
                check_refused(self, InvalidPicture, picture, lambda: trimmed(picture, saying, book))
                continue
            checked += 1
            made = trimmed(picture, saying, book)
            self.assertEqual(made, (days, slow_trimmed(days, answers, log, promises, saying)))
            self.assertIs(is_break(made, saying, book) and is_picture(made, book), True)
        self.assertGreater(checked, 150)

    def test_what_is_refused(self):
        picture, saying = ({"x": 3, "y": 4}, {}), ("le", X, Y)
        for value in (picture, ({"x": 3}, {}), ({}, {}), None):
            check_refused(self, InvalidPicture, value, lambda: trimmed(value, saying, EMPTY))
            check_refused(self, InvalidSaying, None, lambda: trimmed(value, None, EMPTY))
        clashing = ({"x": 5, "y": 4}, {"a": [(0, 1), (1, 0)]})
        check_refused(self, InvalidPicture, clashing, lambda: trimmed(clashing, saying, EMPTY))
        check_too_many(self, "pieces", 60, lambda: trimmed(({"x": 5, "y": 4}, {}), nots(58), EMPTY))
        check_refused(self, InvalidPicture, picture, lambda: trimmed(picture, nots(58), EMPTY))
        self.assertEqual(trimmed(picture, nots(57), EMPTY), picture)


if __name__ == "__main__":
    unittest.main()
