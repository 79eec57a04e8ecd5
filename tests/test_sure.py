"""Broken books, sureness and its papers, and what a row foretells."""

import random
import unittest

from leadrules.books import Book
from leadrules.errors import InvalidDays, InvalidRow, InvalidSaying
from leadrules.laid import is_break
from leadrules.sure import (broken_paper, foretold, is_broken, is_broken_paper, is_sure_paper, put_in, sure_paper,
                            sureness)
from leadrules.trees import is_tree
from leadrules.verdicts import broken, verdict
from tests import drawn, known_books, slow, slowtrees, wrong
from tests.test_formulas import tower
from tests.test_laid import slow_holds
from tests.test_sayings import nots
from tests.test_slack import BROKEN, check_broken
from tests.wrong import check_refused, check_too_many

X, Y = ("day", "x"), ("day", "y")
ZERO, ONE = ("num", 0), ("num", 1)
EMPTY = Book([], [])
NEVER = ("le", ONE, ZERO)
BROKEN_BOOKS = [
    BROKEN, Book([("a", 0, 5), ("a", 1, 4)], []), Book([], [("lead", "a", 3, 2)]),
    Book([("a", 0, 9)], [("lead", "b", None, 8), ("quick", "a", "b")]),
    Book([("a", 0, 9), ("b", 2, 8)], [("quick", "a", "c"), ("quick", "c", "b")]),
    Book([("a", 0, 5)], [("lead", "b", 6, None), ("quick", "b", "a")]),
    Book([("h", 7, 7)], [("lead", "c", 1, None), ("quick", "c", "d"), ("lead", "d", None, 0)]),
]


def le(first, second):
    return ("le", first, second)


def on(rule, formula):
    return ("on", rule, formula)


def slow_put_in(told, days):
    """Days in the place of names, by an own walk."""
    if told[0] == "day":
        return ("num", days[told[1]]) if told[1] in days else told
    return tuple(slow_put_in(part, days) if isinstance(part, tuple) else part for part in told)


def some_days(draw, names="xyz"):
    """Days for some of the names."""
    return {name: draw.randint(-4, 6) for name in names if draw.random() < 0.6}


class Broken(unittest.TestCase):
    def test_broken_books(self):
        for book in BROKEN_BOOKS:
            self.assertIs(is_broken(book), True)
            paper = broken_paper(book)
            self.assertTrue(slowtrees.Judge(NEVER, book.log, book.promises).is_tree(paper))
            self.assertIs(is_broken_paper(paper, book), True)
            self.assertIs(is_broken_paper(paper, EMPTY), False)
            self.assertEqual(verdict(NEVER, book), "all")

    def test_the_saying_that_papers_are_of(self):
        """Rings of the bounds of ("num", 1), day 1 of the saying, are in force; those of another number are not."""
        torn = Book([], [("lead", "a", 3, 2)])
        for number in range(-1, 4):
            ring = [(0, 0, -1), (0, 1, -number), (1, 0, number)]
            self.assertIs(is_broken_paper(("ring", ring), torn), number == 1)
        # ("num", 0) is day 0, so there is no day 2.
        for number in range(-2, 3):
            self.assertIs(is_broken_paper(("ring", [(0, 0, -1), (0, 2, -number), (2, 0, number)]), torn), False)

    def test_kept_books(self):
        for book in (EMPTY, Book([("a", 0, 5), ("a", 1, 5)], [("lead", "a", 4, 5)]), Book([], [("quick", "a", "b"),
                     ("quick", "b", "a")]), Book([("a", 0, 9), ("b", -1, 8)], [("quick", "a", "b")])):
            self.assertIs(is_broken(book), False)
            self.assertIsNone(broken_paper(book))
            self.assertIsNotNone(broken(NEVER, book))

    def test_papers_of_other_books_and_any_value(self):
        paper = broken_paper(BROKEN)
        self.assertIs(is_broken_paper(paper, Book([("a", 0, 1), ("b", 0, 2)], [])), False)
        self.assertIs(is_broken_paper(paper, Book([("a", 0, 1), ("a", 0, 1)], [])), False)
        for value in wrong.ANYTHING:
            self.assertIs(is_broken_paper(value, BROKEN), False)

    def test_slow_reckoning(self):
        draw = random.Random(190)
        found = {True: 0, False: 0}
        for _ in range(400):
            log = [drawn.row(draw, "abc") for _ in range(draw.randint(0, 4))]
            promises = [drawn.promise(draw, "abc") for _ in range(draw.randint(0, 4))]
            book, due = Book(log, promises), slow.clash({}, log, promises) is not None
            found[due] += 1
            self.assertIs(is_broken(book), due)
            paper = broken_paper(book)
            self.assertIs(paper is not None, due)
            if due:
                self.assertTrue(slowtrees.Judge(NEVER, log, promises).is_tree(paper))
        self.assertTrue(min(found.values()) > 100, found)

    def test_full_books(self):
        log = [("a", day, 2 * day) for day in range(23)]
        for row, due in ((("a", 30, 60), False), (("a", 30, 43), True), (("a", 5, 11), True), (("b", 0, -90), False)):
            book = Book(log + [row], [])
            self.assertIs(is_broken(book), due)
            self.assertIs(broken_paper(book) is not None, due)


class PutIn(unittest.TestCase):
    def test_put_in(self):
        told = ("late", X, on("a", ("soon", Y, X)))
        self.assertEqual(put_in(told, {"x": 3}), ("late", ("num", 3), on("a", ("soon", Y, ("num", 3)))))
        self.assertEqual(put_in(le(told, Y), {"y": -1, "x": 0}),
                         le(("late", ZERO, on("a", ("soon", ("num", -1), ZERO))), ("num", -1)))

    def test_names_that_do_not_stand_there(self):
        self.assertEqual(put_in(le(X, ONE), {"z": 4, "p": 0}), le(X, ONE))
        self.assertEqual(put_in(X, {}), X)

    def test_own_walk(self):
        draw = random.Random(191)
        for _ in range(200):
            told = draw.choice([drawn.saying(draw, 2, 2), drawn.formula(draw, 3)])
            if known_books.pieces(told) <= 60:
                days = some_days(draw, "wxyz")
                self.assertEqual(put_in(told, days), slow_put_in(told, days))

    def test_refused(self):
        for value in (None, 3, ("le", X), ["day", "x"], ("num", True), ("not", X)):
            check_refused(self, InvalidSaying, value, lambda: put_in(value, None))
        check_refused(self, InvalidDays, None, lambda: put_in(tower(70), None))
        check_too_many(self, "pieces", 60, lambda: put_in(tower(60), {}))
        check_too_many(self, "pieces", 60, lambda: put_in(nots(58), {}))
        self.assertEqual(put_in(tower(59), {"x": 1}), tower(59, ONE))


class Sureness(unittest.TestCase):
    ROWS = Book([("a", 0, 3), ("a", 5, 6)], [])

    def test_sure_never_maybe(self):
        saying = le(on("a", X), ("num", 6))
        self.assertEqual([sureness(saying, self.ROWS, {"x": day}) for day in (-1, 0, 4, 5, 6)],
                         ["sure", "sure", "sure", "sure", "maybe"])
        saying = le(on("a", X), ("num", 2))
        self.assertEqual([sureness(saying, self.ROWS, {"x": day}) for day in (-1, 0, 9)], ["maybe", "never", "never"])

    def test_names_that_are_not_told(self):
        # x stands for any day.
        saying = le(on("a", X), ("num", 6))
        self.assertEqual(sureness(saying, self.ROWS, {}), "maybe")
        self.assertEqual(sureness(saying, self.ROWS, {"y": 4}), "maybe")
        self.assertEqual(sureness(le(on("a", X), on("a", ("add", 1, X))), EMPTY, {}), "sure")
        self.assertEqual(sureness(le(("add", 1, X), X), EMPTY, {"z": 1}), "never")

    def test_papers(self):
        for days, word in (({"x": 4}, "sure"), ({"x": 6}, "maybe")):
            paper = sure_paper(le(on("a", X), ("num", 6)), self.ROWS, days)
            self.assertEqual(paper[0], word)
            self.assertIs(is_sure_paper(paper, le(on("a", X), ("num", 6)), self.ROWS, days), True)
        paper = sure_paper(le(on("a", X), ("num", 2)), self.ROWS, {"x": 0})
        self.assertEqual(paper[0], "never")

    def test_papers_of_the_other_sorts(self):
        """The papers of sure, never and maybe, each with the others' words and with more or fewer parts."""
        cases = [(le(on("a", X), ("num", 6)), {"x": 4}), (le(on("a", X), ("num", 6)), {"x": 6}),
                 (le(on("a", X), ("num", 2)), {"x": 0})]
        papers = [sure_paper(saying, self.ROWS, days) for saying, days in cases]
        for number, (saying, days) in enumerate(cases):
            for other, paper in enumerate(papers):
                self.assertIs(is_sure_paper(paper, saying, self.ROWS, days), number == other)
            paper = papers[number]
            for value in (paper[:-1], paper + (paper[-1],), list(paper), paper[1:], paper[::-1], ("Sure",) + paper[1:],
                          (None,) + paper[1:], (True,) + paper[1:]):
                self.assertIs(is_sure_paper(value, saying, self.ROWS, days), False)
            for word in ("sure", "never", "maybe"):
                self.assertIs(is_sure_paper((word,) + paper[1:], saying, self.ROWS, days), word == paper[0])
        maybe = papers[1]
        self.assertIs(is_sure_paper(("maybe", maybe[2], maybe[1]), *cases[1][:1], self.ROWS, cases[1][1]), False)

    def test_any_value(self):
        for value in wrong.ANYTHING:
            self.assertIs(is_sure_paper(value, le(X, Y), EMPTY, {}), False)
            for word in ("sure", "never"):
                self.assertIs(is_sure_paper((word, value), le(X, Y), EMPTY, {}), False)
            self.assertIs(is_sure_paper(("maybe", value, ({"x": 0, "y": 0}, {})), ("not", le(X, Y)), EMPTY, {}), False)

    def test_both_verdicts(self):
        """Sureness by both verdicts of what is put in; its papers judged slowly."""
        found = {"sure": 0, "never": 0, "maybe": 0}
        for draw, lists, log, promises in known_books.kept_books(192, 300, "ab", 4, 4):
            saying, days = drawn.saying(draw, 1, 2), some_days(draw)
            if known_books.pieces(saying) > 40:
                continue
            book, told = Book(log, promises), slow_put_in(saying, days)
            verdicts = verdict(told, book), verdict(("not", told), book)
            due = {("all", "breaks"): "sure", ("breaks", "all"): "never", ("breaks", "breaks"): "maybe"}[verdicts]
            found[due] += 1
            self.assertEqual(sureness(saying, book, days), due)
            paper = sure_paper(saying, book, days)
            self.assertIs(is_sure_paper(paper, saying, book, days), True)
            self.check_paper(paper, told, log, promises, due)
        self.assertTrue(min(found.values()) > 15, found)

    def check_paper(self, paper, told, log, promises, due):
        self.assertEqual(paper[0], due)
        if due == "maybe":
            for picture, truth in zip(paper[1:], (False, True)):
                self.assertIsNone(slow.clash(picture[1], log, promises))
                self.assertIs(slow_holds(told, *picture, log, promises), truth)
        else:
            saying = told if due == "sure" else ("not", told)
            self.assertTrue(slowtrees.Judge(saying, log, promises).is_tree(paper[1]))

    def test_hidden_tables(self):
        """What is sure holds at Tables that keep the book, what is never does not; more rows leave it so."""
        found = {"sure": 0, "never": 0, "maybe": 0}
        for draw, lists, log, promises in known_books.kept_books(193, 250, "ab", 3, 4):
            saying, days = drawn.saying(draw, 1, 2, "xy"), drawn.days(draw, "xy")
            if known_books.pieces(saying) > 40:
                continue
            told = {name: day for name, day in days.items() if draw.random() < 0.8}
            state = sureness(saying, Book(log, promises), told)
            found[state] += 1
            truth = slow.holds(saying, days, lists)
            self.assertTrue(truth if state == "sure" else not truth if state == "never" else True)
            more = Book(log + known_books.kept_log(draw, "ab", lists, 2), promises)
            later = sureness(saying, more, days)
            self.assertTrue(later == state or state == "maybe")
            self.assertTrue(later != ("never" if truth else "sure"))
        self.assertTrue(min(found.values()) > 15, found)

    def test_refused(self):
        for call in (sureness, sure_paper, lambda *told: is_sure_paper(None, *told)):
            for value in wrong.NOT_SAYINGS:
                check_refused(self, InvalidSaying, value, lambda: call(value, BROKEN, None))
            for value in wrong.NOT_DAY_DICTS:
                check_refused(self, InvalidDays, value, lambda: call(nots(70), BROKEN, value))
            for book in BROKEN_BOOKS:
                check_broken(self, lambda: call(nots(70), book, {}))
            # not ahead of it makes one piece more.
            check_too_many(self, "pieces", 60, lambda: call(nots(57), EMPTY, {}))
            call(nots(56), EMPTY, {})


class Foretold(unittest.TestCase):
    BOOK = Book([("a", 0, 3)], [("lead", "a", 0, None)])
    SAYING = le(on("a", X), ("num", 6))

    def test_foretold(self):
        told = [foretold(row, self.SAYING, self.BOOK, {"x": 4}) for row in (
            ("a", 5, 6), ("a", 5, 7), ("a", 2, 9), ("a", 2, 1), ("a", 1, 2), ("b", 4, 0), ("a", 0, 3))]
        self.assertEqual(told, ["sure", "maybe", "never", "broken", "broken", "maybe", "maybe"])

    def test_rows_that_break_the_book(self):
        for row in (("a", 0, 4), ("a", -1, 4), ("a", 5, 4), ("a", 7, 2)):
            self.assertEqual(foretold(row, self.SAYING, self.BOOK, {}), "broken")
            check_too_many(self, "pieces", 60, lambda: foretold(row, nots(57), self.BOOK, {}))

    def test_no_room(self):
        log = [("a", day, day) for day in range(24)]
        full = Book(log, [])
        check_too_many(self, "rows", 24, lambda: foretold(("a", 30, 30), self.SAYING, full, {}))
        check_too_many(self, "rows", 24, lambda: foretold(("a", 5, 6), nots(70), full, {}))
        # One that is there already needs no room.
        self.assertEqual(foretold(("a", 5, 5), self.SAYING, full, {"x": 6}), "sure")
        self.assertEqual(foretold(("a", 23, 23), self.SAYING, Book(log[:23], []), {"x": 7}), "never")
        check_too_many(self, "pieces", 60, lambda: foretold(("a", 5, 5), nots(57), full, {}))

    def test_slow_reckoning(self):
        found = {}
        for draw, _, log, promises in known_books.kept_books(194, 150, "ab", 3, 2):
            saying, days, row = drawn.saying(draw, 1, 1, "xy"), some_days(draw, "xy"), drawn.row(draw, "ab")
            with_row = Book(log + [row], promises)
            due = "broken" if slow.clash({}, log + [row], promises) else sureness(saying, with_row, days)
            found[due] = found.get(due, 0) + 1
            self.assertEqual(foretold(row, saying, Book(log, promises), days), due)
        self.assertEqual(sorted(found), ["broken", "maybe", "never", "sure"])

    def test_refused(self):
        row = ("a", 0, 3)
        for value in wrong.NOT_ROWS:
            check_refused(self, InvalidRow, value, lambda: foretold(value, None, BROKEN, None))
        check_refused(self, InvalidSaying, None, lambda: foretold(row, None, BROKEN, None))
        check_refused(self, InvalidDays, None, lambda: foretold(row, nots(70), BROKEN, None))
        full = Book([("a", day, -day) for day in range(24)], [])
        for book in BROKEN_BOOKS + [full]:
            check_broken(self, lambda: foretold(row, nots(70), book, {}))


class Judged(unittest.TestCase):
    def test_papers_by_the_judges_of_their_parts(self):
        saying, book = le(on("a", X), ("num", 6)), Sureness.ROWS
        paper = sure_paper(saying, book, {"x": 4})
        self.assertIs(is_tree(paper[1], put_in(saying, {"x": 4}), book), True)
        paper = sure_paper(saying, book, {})
        self.assertIs(is_break(paper[1], saying, book) and is_break(paper[2], ("not", saying), book), True)
        # A picture lacks the day of a name.
        bare = ({}, paper[1][1])
        self.assertIs(is_sure_paper(("maybe", bare, paper[2]), saying, book, {}), False)


if __name__ == "__main__":
    unittest.main()
