"""Possible answers of formulas, and the last days on which asking comes in time."""

import unittest

from leadrules.answers import (giving, greatest_answer, is_giving, last_hope, last_sure, least_answer, possible,
                               possible_days)
from leadrules.books import Book
from leadrules.errors import InvalidCount, InvalidDay, InvalidDays, InvalidFormula, MissingName, NoTurn
from leadrules.pictures import is_picture
from leadrules.sure import sureness
from leadrules.turning import turned_down
from leadrules.verdicts import verdict
from tests import drawn, known_books, slow, wrong
from tests.test_formulas import tower
from tests.test_laid import slow_day
from tests.test_slack import BROKEN, check_broken
from tests.test_sure import slow_put_in
from tests.wrong import check_missing, check_refused, check_too_many

X, Y = ("day", "x"), ("day", "y")
ZERO = ("num", 0)
EMPTY = Book([], [])
ROWS = Book([("a", 0, 3), ("a", 5, 6)], [])
# b serves on 5 or 6 what is asked on 0; a on 5 what is asked on 5, on 20 what is asked on 6.
GAP = Book([("a", 5, 5), ("a", 6, 20)], [("lead", "b", 5, 6)])


def on(rule, formula):
    return ("on", rule, formula)


def drawn_formulas(seed, many, names="xy", rows=3, promises=3):
    """Formulas with days for all their names, beside books that hidden worlds keep."""
    for draw, lists, log, told in known_books.kept_books(seed, many, "ab", rows, promises):
        if draw.random() < 0.6:
            told = told + [("lead", rule, *drawn.world(lists)[rule].leads()) for rule in "ab"]
        formula = drawn.formula(draw, 2, names)
        if known_books.pieces(formula) <= 25:
            yield draw, lists, log, told, formula, drawn.days(draw, "xyz", 4)


class Ends(unittest.TestCase):
    def test_rows(self):
        served = on("a", X)
        ends = [(least_answer(served, ROWS, {"x": day}), greatest_answer(served, ROWS, {"x": day}))
                for day in (-1, 0, 2, 5, 6)]
        self.assertEqual(ends, [(None, 3), (3, 3), (3, 6), (6, 6), (6, None)])

    def test_without_names(self):
        self.assertEqual(least_answer(("num", 7), EMPTY, {}), 7)
        self.assertEqual(greatest_answer(("add", -9, ("num", 7)), EMPTY, {"x": 1}), -2)
        for formula, ends in ((on("b", ZERO), (5, 6)), (on("a", on("b", ZERO)), (5, 20))):
            self.assertEqual((least_answer(formula, GAP, {}), greatest_answer(formula, GAP, {})), ends)

    def test_none_on_either_side(self):
        low, high = Book([], [("lead", "a", 2, None)]), Book([], [("lead", "a", None, 2)])
        for book, ends in ((EMPTY, (None, None)), (low, (5, None)), (high, (None, 5))):
            self.assertEqual(least_answer(on("a", X), book, {"x": 3}), ends[0])
            self.assertEqual(greatest_answer(on("a", X), book, {"x": 3}), ends[1])

    def test_by_asking_one_day_after_another(self):
        found = {}
        for _, _, log, promises, formula, days in drawn_formulas(200, 120):
            book = Book(log, promises)
            least, greatest = least_answer(formula, book, days), greatest_answer(formula, book, days)
            told, span = slow_put_in(formula, days), range(-40, 41)
            asked = [day for day in (span if None not in (least, greatest) else range(-12, 13))]
            due = [day for day in asked if verdict(
                ("not", ("and", ("le", told, ("num", day)), ("le", ("num", day), told))), book) == "breaks"]
            if None not in (least, greatest):
                self.assertEqual((min(due), max(due)), (least, greatest))
            self.assertTrue(all(least is None or least <= day for day in due))
            self.assertTrue(all(greatest is None or day <= greatest for day in due))
            kind = (least is None, greatest is None)
            found[kind] = found.get(kind, 0) + 1
            for at in (-12, 3):
                self.assertEqual(possible_days(formula, at, 8, book, days), [day for day in due if at <= day < at + 8])
        self.assertEqual(len(found), 4, found)

    def test_hidden_tables(self):
        for draw, lists, log, promises, formula, days in drawn_formulas(201, 200):
            book, day = Book(log, promises), slow.day_of(formula, days, lists)
            least, greatest = least_answer(formula, book, days), greatest_answer(formula, book, days)
            self.assertTrue((least is None or least <= day) and (greatest is None or day <= greatest))
            self.assertIs(possible(formula, day, book, days), True)
            self.assertEqual(possible_days(formula, day, 1, book, days), [day])


class Giving(unittest.TestCase):
    def test_days_that_are_missing_between(self):
        formula = on("a", on("b", ZERO))
        self.assertEqual(possible_days(formula, 0, 30, GAP, {}), [5, 20])
        self.assertEqual([possible(formula, day, GAP, {}) for day in (4, 5, 6, 19, 20, 21)],
                         [False, True, False, False, True, False])
        for day in (5, 20):
            self.assertIs(is_giving(giving(formula, day, GAP, {}), formula, day, GAP, {}), True)
        self.assertIsNone(giving(formula, 12, GAP, {}))

    def test_is_giving(self):
        served, days = on("a", X), {"x": 2}
        for value, day, due in (
                (({}, {"a": [(2, 5)]}), 5, True), (({}, {"a": [(2, 5)]}), 4, False), (({}, {}), 3, True),
                (({"x": 5}, {"a": [(2, 5)]}), 5, True), (({"y": 0}, {"a": ((2, 4), (4, 6)), "c": []}), 4, True),
                (({}, {"a": [(2, 7)]}), 7, False), (({}, {"a": [(2, 2)]}), 2, False)):
            self.assertIs(is_giving(value, served, day, ROWS, days), due)
        for value in wrong.ANYTHING:
            if value not in (({}, {}),):
                self.assertIs(is_giving(value, served, 6, ROWS, days), False)

    def test_slow_reckoning(self):
        given = 0
        for draw, lists, log, promises, formula, days in drawn_formulas(202, 150):
            book, day = Book(log, promises), slow.day_of(formula, days, lists) + draw.choice((-3, -1, 0, 1, 2))
            picture = giving(formula, day, book, days)
            self.assertIs(picture is not None, possible(formula, day, book, days))
            if picture is not None:
                given += 1
                self.assertIsNone(slow.clash(picture[1], log, promises))
                self.assertEqual(slow_day(formula, days, picture[1], log, promises), day)
                self.assertIs(is_picture(picture, book), True)
                self.assertIs(is_giving(picture, formula, day, book, days), True)
                self.assertIs(is_giving(picture, formula, day + 1, book, days), False)
        self.assertGreater(given, 60)

    def test_thirty_days(self):
        self.assertEqual(possible_days(("num", 12), 0, 30, EMPTY, {}), [12])
        self.assertEqual(possible_days(on("a", X), -15, 30, EMPTY, {"x": 10 ** 6}), list(range(-15, 15)))
        self.assertEqual(possible_days(on("a", X), 3, 0, EMPTY, {"x": 0}), [])
        check_too_many(self, "days", 30, lambda: possible_days(X, 0, 31, EMPTY, {"x": 0}))
        check_too_many(self, "days", 30, lambda: possible_days(tower(70), 0, 31, EMPTY, {"x": 0}))
        check_broken(self, lambda: possible_days(tower(70), 0, 31, BROKEN, {"x": 0}))
        check_missing(self, MissingName, "name", "x", lambda: possible_days(tower(70), 0, 31, BROKEN, {}))

    def test_counts(self):
        for value in wrong.NOT_COUNTS:
            check_refused(self, InvalidCount, value, lambda: possible_days(tower(70), 0, value, BROKEN, None))


class InTime(unittest.TestCase):
    def test_rows(self):
        self.assertEqual([last_sure(on("a", X), day, ROWS) for day in (2, 3, 5, 6, 9)], [None, 0, 0, 5, 5])
        self.assertEqual([last_hope(on("a", X), day, ROWS) for day in (2, 3, 5, 6, 9)], [-1, 4, 4, None, None])

    def test_both_sorts_of_none(self):
        # On no day surely, on all days perhaps.
        self.assertIsNone(last_sure(on("a", X), 7, EMPTY))
        self.assertIsNone(last_hope(on("a", X), 7, EMPTY))
        low, high = Book([], [("lead", "a", 2, None)]), Book([], [("lead", "a", None, 4)])
        self.assertEqual([last_sure(on("a", X), 7, low), last_hope(on("a", X), 7, low)], [None, 5])
        self.assertEqual([last_sure(on("a", X), 7, high), last_hope(on("a", X), 7, high)], [3, None])

    def test_without_rules(self):
        for call in (last_sure, last_hope):
            self.assertEqual(call(X, 7, EMPTY), 7)
            self.assertEqual(call(("add", 4, ("late", ("day", "z"), ("add", -1, ("day", "z")))), 7, EMPTY), 3)

    def test_by_sureness_and_the_turned_formula(self):
        found = {}
        for draw, lists, log, promises, formula, _ in drawn_formulas(203, 200, "x"):
            if any(piece[0] == "num" for piece in slow.pieces(formula)):
                continue
            day, book = draw.randint(-6, 9), Book(log, promises)
            sure, hope = last_sure(formula, day, book), last_hope(formula, day, book)
            turned, told = turned_down(formula, "y"), {"y": day}
            self.assertEqual((sure, hope), (least_answer(turned, book, told), greatest_answer(turned, book, told)))
            saying, states = ("le", formula, ("num", day)), {}
            for at in [end + more for end in (sure, hope) if end is not None for more in (0, 1)] + [-30, 30]:
                states[at] = sureness(saying, book, {"x": at})
            for at, state in states.items():
                self.assertEqual(state == "sure", sure is not None and at <= sure)
                self.assertEqual(state != "never", hope is None or at <= hope)
            kind = (sure is None, hope is None)
            found[kind] = found.get(kind, 0) + 1
        self.assertEqual(len(found), 4, found)

    def test_hidden_tables(self):
        """By the formula's own days: in time on the last sure day, and not behind the last hope."""
        checked = 0
        for draw, lists, log, promises, formula, _ in drawn_formulas(204, 200, "x"):
            if any(piece[0] == "num" for piece in slow.pieces(formula)):
                continue
            day, book = draw.randint(-6, 9), Book(log, promises)
            sure, hope = last_sure(formula, day, book), last_hope(formula, day, book)
            if sure is not None:
                self.assertLessEqual(slow.day_of(formula, {"x": sure}, lists), day)
                checked += 1
            if hope is not None:
                self.assertGreater(slow.day_of(formula, {"x": hope + 1}, lists), day)
                checked += 1
        self.assertGreater(checked, 80)

    def test_no_turn(self):
        for formula in (ZERO, ("late", X, Y), ("soon", X, ZERO), on("a", ("num", 3))):
            for call in (last_sure, last_hope):
                check_refused(self, NoTurn, formula, lambda: call(formula, 0, BROKEN))
        long = ("late", Y, tower(70))
        check_refused(self, NoTurn, long, lambda: last_sure(long, 0, EMPTY))

    def test_refused(self):
        for call in (last_sure, last_hope):
            for value in wrong.NOT_FORMULAS:
                check_refused(self, InvalidFormula, value, lambda: call(value, None, BROKEN))
            for value in wrong.NOT_DAYS:
                check_refused(self, InvalidDay, value, lambda: call(("late", X, Y), value, BROKEN))
            check_broken(self, lambda: call(tower(70), 0, BROKEN))
            # With the number more than sixty pieces.
            self.assertEqual(call(tower(58), 0, EMPTY), -58)
            check_too_many(self, "pieces", 60, lambda: call(tower(59), 0, EMPTY))
        # Turned it has two pieces more for each til.
        told = X
        for _ in range(19):
            told = ("til", "a", told)
        self.assertEqual(known_books.pieces(turned_down(told, "y")), 58)
        self.assertIsNone(last_sure(told, 0, EMPTY))
        check_too_many(self, "pieces", 60, lambda: last_sure(("til", "a", told), 0, EMPTY))


class Refused(unittest.TestCase):
    def test_sequence(self):
        """Parameters, then MissingName, then BrokenBook, then TooMany."""
        long = tower(70)
        calls = [lambda told, days, book: least_answer(told, book, days),
                 lambda told, days, book: greatest_answer(told, book, days),
                 lambda told, days, book: giving(told, 3, book, days),
                 lambda told, days, book: possible(told, 3, book, days),
                 lambda told, days, book: is_giving(None, told, 3, book, days),
                 lambda told, days, book: possible_days(told, 3, 9, book, days)]
        for call in calls:
            for value in wrong.NOT_FORMULAS:
                check_refused(self, InvalidFormula, value, lambda: call(value, None, BROKEN))
            for value in wrong.NOT_DAY_DICTS:
                check_refused(self, InvalidDays, value, lambda: call(long, value, BROKEN))
            check_missing(self, MissingName, "name", "x", lambda: call(("late", Y, long), {}, BROKEN))
            check_missing(self, MissingName, "name", "y", lambda: call(("late", Y, long), {"x": 1, "z": 1}, BROKEN))
            check_broken(self, lambda: call(long, {"x": 0}, BROKEN))
            check_too_many(self, "pieces", 60, lambda: call(long, {"x": 0}, EMPTY))

    def test_days_first(self):
        for call in (giving, possible):
            for value in wrong.NOT_DAYS:
                check_refused(self, InvalidDay, value, lambda: call(tower(70), value, BROKEN, None))
        check_refused(self, InvalidDay, True, lambda: is_giving(None, tower(70), True, BROKEN, None))
        check_refused(self, InvalidDay, True, lambda: possible_days(tower(70), True, -1, BROKEN, None))

    def test_pieces(self):
        self.assertEqual(least_answer(tower(58), EMPTY, {"x": 0}), 58)
        check_too_many(self, "pieces", 60, lambda: least_answer(tower(59), EMPTY, {"x": 0}))
        check_too_many(self, "pieces", 60, lambda: greatest_answer(tower(59), EMPTY, {"x": 0}))
        # Twice the formula, and six more.
        self.assertIs(possible(tower(26), 26, EMPTY, {"x": 0}), True)
        for call in (lambda: giving(tower(27), 3, EMPTY, {"x": 0}), lambda: possible(tower(27), 3, EMPTY, {"x": 0}),
                     lambda: is_giving(None, tower(27), 3, EMPTY, {"x": 0}),
                     lambda: possible_days(tower(27), 3, 2, EMPTY, {"x": 0})):
            check_too_many(self, "pieces", 60, call)


if __name__ == "__main__":
    unittest.main()
