"""Slack, its papers, spans and tables."""

import random
import unittest

from leadrules.books import Book
from leadrules.errors import BrokenBook, InvalidDay, InvalidFormula, InvalidFormulas
from leadrules.laid import is_break
from leadrules.slack import (farthest, is_farthest, least_slack, slack_saying, slack_table, slack_tree, span)
from leadrules.trees import is_tree
from leadrules.verdicts import verdict
from tests import drawn, known_books, slow, slowtrees, wrong
from tests.test_formulas import tower
from tests.test_laid import slow_day
from tests.wrong import check_refused, check_too_many, raised

X, Y, Z = ("day", "x"), ("day", "y"), ("day", "z")
ZERO = ("num", 0)
EMPTY = Book([], [])
BROKEN = Book([("a", 0, 1), ("a", 0, 2)], [])


def on(rule, formula):
    return ("on", rule, formula)


def drawn_pairs(seed, many, rows=3, promises=4, rules="ab"):
    """Two formulas beside books that hidden worlds keep: (draw, lists, log, promises, first, second)."""
    for draw, lists, log, told in known_books.kept_books(seed, many, rules, rows, promises):
        names = draw.choice(["x", "x", "xy"])
        if draw.random() < 0.5:
            told = told + [("lead", rule, *drawn.world(lists)[rule].leads()) for rule in rules]
        yield draw, lists, log, told, drawn.formula(draw, 2, names, rules), drawn.formula(draw, 2, names, rules)


def check_broken(test, action):
    """Check that an action raises just BrokenBook."""
    test.assertIs(raised(action).__class__, BrokenBook)


class Saying(unittest.TestCase):
    def test_saying(self):
        self.assertEqual(slack_saying(X, Y, -3), ("le", X, ("add", -3, Y)))
        self.assertEqual(slack_saying(Y, Y, 0), ("le", Y, ("add", 0, Y)))

    def test_refused(self):
        for value in wrong.NOT_DAYS:
            check_refused(self, InvalidDay, value, lambda: slack_saying(X, Y, value))
        check_refused(self, InvalidDay, None, lambda: slack_saying(tower(70), Y, None))
        check_too_many(self, "pieces", 60, lambda: slack_saying(tower(56), tower(1), 0))
        self.assertEqual(known_books.pieces(slack_saying(tower(55), tower(1), 0)), 60)


class Slack(unittest.TestCase):
    def test_leads(self):
        book = Book([], [("lead", "a", 1, 3)])
        self.assertEqual([least_slack(on("a", X), X, book), least_slack(X, on("a", X), book)], [3, -1])
        self.assertEqual(least_slack(on("a", on("a", X)), X, book), 6)
        self.assertEqual(least_slack(("by", "a", X), X, book), -1)
        self.assertEqual(least_slack(("til", "a", X), ("by", "a", X), book), 2)

    def test_none(self):
        for first, second in ((X, Y), (on("a", X), X), (X, on("a", X)), (on("a", X), on("b", X)), (X, ZERO),
                              (("late", X, Y), X), (X, ("soon", X, Y))):
            self.assertIsNone(least_slack(first, second, EMPTY))
            self.assertIsNone(slack_tree(first, second, EMPTY))
            self.assertIsNone(farthest(first, second, EMPTY))

    def test_signs(self):
        self.assertEqual(least_slack(("num", 3), ("num", 10), EMPTY), -7)
        self.assertEqual(least_slack(("num", 10), ("num", 3), EMPTY), 7)
        self.assertEqual(least_slack(on("a", X), on("a", ("add", 4, X)), EMPTY), 0)
        self.assertEqual(least_slack(on("a", ("til", "a", X)), X, EMPTY), 0)
        self.assertEqual(least_slack(("add", -2, ("soon", X, Y)), Y, EMPTY), -2)
        self.assertEqual(least_slack(("til", "a", X), ("by", "a", ("add", 1, X)), EMPTY), -1)

    def test_rows(self):
        book = Book([("a", 0, 4), ("a", 10, 25)], [])
        self.assertEqual(least_slack(on("a", ("num", 5)), ("num", 5), book), 20)
        self.assertEqual(least_slack(("num", 5), on("a", ("num", 5)), book), 1)
        self.assertEqual(span(on("a", ("num", 5)), ZERO, book), (4, 25))
        self.assertEqual(span(on("a", ("num", 11)), ZERO, book), (25, None))
        self.assertEqual(span(on("a", ("num", -1)), ZERO, book), (None, 4))

    def test_a_formula_and_itself(self):
        draw = random.Random(160)
        for _ in range(60):
            told = drawn.formula(draw, 3, "xy")
            if known_books.pieces(told) <= 29:
                self.assertEqual(least_slack(told, told, EMPTY), 0)
                self.assertEqual(span(told, told, EMPTY), (0, 0))

    def test_by_asking_the_verdict(self):
        """The first number, of one after another, with which the saying holds for all."""
        found = {None: 0, -1: 0, 0: 0, 1: 0}
        for _, _, log, promises, first, second in drawn_pairs(161, 250):
            book, most = Book(log, promises), least_slack(first, second, Book(log, promises))
            numbers = [number for number in range(-60, 60) if number in (most, 59) or most is None and number % 20 == 0
                       or most is not None and abs(number - most) < 4]
            truths = [verdict(slack_saying(first, second, number), book) for number in numbers]
            due = [number for number, truth in zip(numbers, truths) if truth == "all"]
            self.assertEqual(min(due, default=None), most)
            found[most if most is None else (most > 0) - (most < 0)] += 1
        self.assertTrue(min(found.values()) > 8, found)

    def test_papers(self):
        told = 0
        for _, lists, log, promises, first, second in drawn_pairs(162, 250, 4):
            book = Book(log, promises)
            most = least_slack(first, second, book)
            if most is None:
                self.assertIsNone(slack_tree(first, second, book) or farthest(first, second, book))
                continue
            told += 1
            paper, picture = slack_tree(first, second, book), farthest(first, second, book)
            saying = slack_saying(first, second, most)
            self.assertTrue(slowtrees.Judge(saying, log, promises).is_tree(paper))
            self.assertIs(is_tree(paper, saying, book), True)
            self.assertIsNone(slow.clash(picture[1], log, promises))
            far = [slow_day(formula, *picture, log, promises) for formula in (first, second)]
            self.assertEqual(far[0] - far[1], most)
            self.assertIs(is_farthest(picture, first, second, book), True)
            self.assertIs(is_break(picture, slack_saying(first, second, most - 1), book), True)
            self.assertIs(is_farthest(picture, first, ("add", 1, second), book), True)
        self.assertGreater(told, 60)

    def test_hidden_tables(self):
        """At worlds that keep the book the first formula is never more days later than the slack tells."""
        for draw, lists, log, promises, first, second in drawn_pairs(163, 150):
            least, most = span(first, second, Book(log, promises))
            for _ in range(10):
                days = drawn.days(draw, "xy", 12)
                later = slow.day_of(first, days, lists) - slow.day_of(second, days, lists)
                self.assertTrue((least is None or least <= later) and (most is None or later <= most))

    def test_facts(self):
        for draw, _, log, promises, first, second in drawn_pairs(164, 120, 2):
            book, third = Book(log, promises), drawn.formula(draw, 1, "xy")
            most, turned = least_slack(first, second, book), least_slack(second, first, book)
            self.assertEqual(span(first, second, book), (None if turned is None else -turned, most))
            more, less = draw.randint(-5, 5), draw.randint(-5, 5)
            moved = least_slack(("add", more, first), ("add", less, second), book)
            self.assertEqual(moved, None if most is None else most + more - less)
            second_third, first_third = least_slack(second, third, book), least_slack(first, third, book)
            if most is not None and second_third is not None:
                self.assertLessEqual(first_third, most + second_third)
            fewer = least_slack(first, second, Book(log[1:], promises[:-1]))
            if fewer is not None:
                self.assertLessEqual(most, fewer)


class Span(unittest.TestCase):
    def test_bounds_on_each_side(self):
        served = on("a", X)
        self.assertEqual(span(served, X, Book([], [("lead", "a", 1, 3)])), (1, 3))
        self.assertEqual(span(served, X, Book([], [("lead", "a", 1, None)])), (1, None))
        self.assertEqual(span(served, X, Book([], [("lead", "a", None, 3)])), (None, 3))
        self.assertEqual(span(served, X, EMPTY), (None, None))
        self.assertEqual(span(("num", -5), ("num", 3), EMPTY), (-8, -8))


class Judge(unittest.TestCase):
    def test_is_farthest(self):
        book, served = Book([], [("lead", "a", 1, 3)]), on("a", X)
        for value in (({"x": 0}, {"a": [(0, 3)]}), ({"x": 7, "z": 1}, {"a": ((6, 8), (7, 10)), "b": []})):
            self.assertIs(is_farthest(value, served, X, book), True)
        # A day less; a day more than the book lets; no day for the name; laid at the low.
        for value in (({"x": 0}, {"a": [(0, 2)]}), ({"x": 0}, {"a": [(0, 4)]}), ({}, {"a": [(0, 3)]}),
                      ({"y": 0}, {"a": [(0, 3)]}), ({"x": 0}, {})):
            self.assertIs(is_farthest(value, served, X, book), False)
        self.assertIs(is_farthest(({"x": 0}, {"a": [(0, 3)]}), served, ("late", X, Y), book), False)

    def test_no_slack_and_broken_books(self):
        for value in (({"x": 0}, {}), ({"x": 0, "y": 0}, {"a": [(0, 3)]})):
            self.assertIs(is_farthest(value, on("a", X), X, EMPTY), False)
            self.assertIs(is_farthest(value, X, X, BROKEN), False)
        self.assertIs(is_farthest(({"x": 0}, {}), X, X, EMPTY), True)

    def test_any_value(self):
        for value in wrong.ANYTHING:
            self.assertIs(is_farthest(value, on("a", X), X, Book([], [("lead", "a", 1, 3)])), False)


class Tables(unittest.TestCase):
    def test_tables(self):
        book = Book([], [("lead", "a", 1, 3)])
        served = on("a", X)
        self.assertEqual(slack_table([], book), [])
        self.assertEqual(slack_table([served], book), [[0]])
        self.assertEqual(slack_table((served, X), book), [[0, 3], [-1, 0]])
        self.assertEqual(slack_table([served, X, Y, ("add", 2, X)], book),
                         [[0, 3, None, 1], [-1, 0, None, -2], [None, None, 0, None], [1, 2, None, 0]])
        self.assertEqual(slack_table([X, X, X, X], EMPTY), [[0] * 4] * 4)

    def test_too_many(self):
        check_too_many(self, "formulas", 4, lambda: slack_table([X] * 5, EMPTY))
        check_too_many(self, "formulas", 4, lambda: slack_table([tower(70)] * 5, EMPTY))
        check_too_many(self, "pieces", 60, lambda: slack_table([X, tower(57), X], EMPTY))
        # Of one twice, and of one alone.
        check_too_many(self, "pieces", 60, lambda: slack_table([tower(29)], EMPTY))
        self.assertEqual(slack_table([tower(28)], EMPTY), [[0]])
        self.assertEqual(slack_table([tower(28), X], EMPTY), [[0, 28], [-28, 0]])

    def test_which_error_comes_first(self):
        for value in ([X, X, X, X, X, None], [tower(70), None]):
            check_refused(self, InvalidFormulas, value, lambda: slack_table(value, BROKEN))
        check_broken(self, lambda: slack_table([X] * 5, BROKEN))
        check_broken(self, lambda: slack_table([tower(70)], BROKEN))
        check_broken(self, lambda: slack_table([], BROKEN))


class Refused(unittest.TestCase):
    CALLS = (least_slack, span, slack_tree, farthest)

    def test_broken_books(self):
        for call in self.CALLS:
            check_broken(self, lambda: call(X, Y, BROKEN))
            # Ahead of TooMany, behind all other errors.
            check_broken(self, lambda: call(tower(70), Y, BROKEN))
            check_refused(self, InvalidFormula, None, lambda: call(tower(70), None, BROKEN))
            for book in (Book([], [("lead", "a", 3, 2)]), Book([("a", 0, 5)], [("lead", "a", None, 4)])):
                check_broken(self, lambda: call(X, X, book))

    def test_pieces(self):
        for call in self.CALLS:
            check_too_many(self, "pieces", 60, lambda: call(tower(56), tower(1), EMPTY))
            self.assertIsNotNone(call(tower(55), tower(1), EMPTY))
        check_too_many(self, "pieces", 60, lambda: is_farthest(None, tower(56), tower(1), EMPTY))
        check_too_many(self, "pieces", 60, lambda: is_farthest(None, tower(56), tower(1), BROKEN))
        self.assertIs(is_farthest(({"x": 0}, {}), tower(55), tower(1), EMPTY), True)


if __name__ == "__main__":
    unittest.main()
