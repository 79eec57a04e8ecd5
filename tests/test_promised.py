"""Promises that follow from books, and those that books do not need."""

import random
import unittest

from leadrules.books import Book
from leadrules.errors import InvalidPromise, InvalidRule
from leadrules.pictures import keeps
from leadrules.promised import follow_saying, follows, needless, quicker, slim, sure_lead
from leadrules.verdicts import verdict
from tests import drawn, known_books, slow, wrong
from tests.test_slack import BROKEN, check_broken
from tests.test_sure import BROKEN_BOOKS
from tests.wrong import check_refused

X = ("day", "x")
EMPTY = Book([], [])
RULES = "abcdefgh"


def on(rule):
    return ("on", rule, X)


def kept_drawn(seed, many, rules="abc", rows=2, promises=5):
    """Books that some rules keep, their promises drawn: (draw, log, promises)."""
    draw = random.Random(seed)
    found = 0
    while found < many:
        log = [drawn.row(draw, rules) for _ in range(draw.randint(0, rows))]
        told = [drawn.promise(draw, rules, 2) for _ in range(draw.randint(0, promises))]
        if slow.clash({}, log, told) is None:
            found += 1
            yield draw, log, told


def by_verdict(promise, book):
    """Whether a promise follows: its saying holds for all rules that keep the book."""
    return verdict(follow_saying(promise), book) == "all"


class Saying(unittest.TestCase):
    def test_saying(self):
        self.assertEqual(follow_saying(("quick", "a", "h")), ("le", on("a"), on("h")))
        self.assertEqual(follow_saying(("lead", "b", -2, None)), ("le", ("add", -2, X), on("b")))
        self.assertEqual(follow_saying(("lead", "b", None, 0)), ("le", on("b"), ("add", 0, X)))
        self.assertEqual(follow_saying(("lead", "b", 0, 5)),
                         ("and", ("le", ("add", 0, X), on("b")), ("le", on("b"), ("add", 5, X))))
        # One that no rules keep has a saying, too.
        self.assertEqual(follow_saying(("lead", "b", 5, 0))[1:],
                         (("le", ("add", 5, X), on("b")), ("le", on("b"), ("add", 0, X))))

    def test_refused(self):
        for value in wrong.NOT_PROMISES:
            check_refused(self, InvalidPromise, value, lambda: follow_saying(value))
            for book in (EMPTY, BROKEN):
                check_refused(self, InvalidPromise, value, lambda: follows(value, book))


class Follows(unittest.TestCase):
    def check(self, promise, book, due):
        self.assertIs(follows(promise, book), due, promise)
        self.assertIs(by_verdict(promise, book), due, promise)

    def test_leads(self):
        book = Book([("a", 0, 2)], [("lead", "a", 1, 3)])
        for least, most, due in ((1, 3, True), (0, 4, True), (1, None, True), (None, 3, True), (-5, 90, True),
                                 (2, 3, False), (1, 2, False), (2, None, False), (None, 2, False), (2, 2, False),
                                 (0, 2, False), (2, 9, False)):
            self.check(("lead", "a", least, most), book, due)
            self.check(("lead", "b", least, most), book, False)
        for least, most in ((1, 3), (-9, None), (None, 9)):
            self.check(("lead", "a", least, most), Book([("a", 0, 2)], []), False)

    def test_chains_of_others(self):
        book = Book([], [("lead", "a", 2, None), ("lead", "d", None, 9), ("quick", "a", "b"), ("quick", "b", "c"),
                         ("quick", "c", "d")])
        for rule in "abcd":
            self.check(("lead", rule, 2, 9), book, True)
            self.check(("lead", rule, 3, None), book, False)
            self.check(("lead", rule, None, 8), book, False)
            for other in "abcd":
                if rule != other:
                    self.check(("quick", rule, other), book, rule < other)

    def test_far_apart_leads(self):
        # A high that is at most a low: quicker without a promise that says so.
        for most, least, due in ((3, 3, True), (3, 4, True), (3, 2, False), (0, -1, False), (-2, -2, True)):
            book = Book([], [("lead", "a", None, most), ("lead", "b", least, None)])
            self.check(("quick", "a", "b"), book, due)
            self.check(("quick", "b", "a"), book, False)
        # Of rules above and beneath: the high of c is at most the low of e.
        book = Book([], [("lead", "a", None, 1), ("quick", "c", "a"), ("lead", "b", 1, None), ("quick", "b", "e")])
        self.check(("quick", "c", "e"), book, True)
        self.check(("quick", "e", "c"), book, False)
        self.check(("quick", "a", "b"), book, True)
        self.check(("quick", "c", "d"), book, False)

    def test_rings_of_quick_promises(self):
        book = Book([], [("quick", "a", "b"), ("quick", "b", "c"), ("quick", "c", "a"), ("lead", "b", -1, 1)])
        for rule in "abc":
            self.check(("lead", rule, -1, 1), book, True)
            for other in "abc":
                if rule != other:
                    self.check(("quick", rule, other), book, True)

    def test_rows_have_no_part(self):
        log = [("a", day, day + 1) for day in range(-12, 12)]
        for promise in (("lead", "a", 0, None), ("lead", "a", None, 5), ("lead", "a", -90, 90), ("quick", "a", "b")):
            self.check(promise, Book(log, []), False)
        book = Book([("a", 0, 3), ("b", 0, 3)], [("quick", "a", "b")])
        self.check(("quick", "b", "a"), book, False)

    def test_by_the_verdict(self):
        found = {True: 0, False: 0}
        for draw, log, promises in kept_drawn(230, 250):
            book = Book(log, promises)
            for _ in range(6):
                promise = drawn.promise(draw, "abcd", 2)
                due = by_verdict(promise, book)
                found[due] += 1
                self.assertIs(follows(promise, book), due, (promise, promises))
        self.assertTrue(min(found.values()) > 100, found)

    def test_hidden_tables(self):
        """Tables that keep a book keep what follows from it."""
        held = 0
        for draw, lists, log, promises in known_books.kept_books(231, 200, "abc", 3, 5):
            book, world = Book(log, promises), drawn.world(lists)
            for _ in range(8):
                promise = drawn.promise(draw, "abc", 3)
                if follows(promise, book):
                    held += 1
                    self.assertTrue(keeps(world, Book([], [promise])))
        self.assertGreater(held, 100)

    def test_more_never_takes_away(self):
        for draw, log, promises in kept_drawn(232, 100):
            promise = drawn.promise(draw, "abc", 2)
            if follows(promise, Book(log[1:], promises[1:])):
                self.assertIs(follows(promise, Book(log, promises)), True)

    def test_each_promise_of_a_book(self):
        for _, log, promises in kept_drawn(233, 60):
            for promise in promises:
                self.assertIs(follows(promise, Book(log, promises)), True)


class Needless(unittest.TestCase):
    # Each of the two leads of a follows from the other one and the rest; of the quick ones the last one.
    LEADS = [("lead", "a", 1, None), ("lead", "a", 2, None)]
    QUICK = [("quick", "a", "b"), ("quick", "a", "c"), ("quick", "b", "c")]

    def test_needless(self):
        self.assertEqual(needless(EMPTY), [])
        self.assertEqual(needless(Book([], self.LEADS)), self.LEADS[:1])
        self.assertEqual(needless(Book([], self.QUICK)), [("quick", "a", "c")])
        self.assertEqual(needless(Book([], self.LEADS + self.QUICK)), [self.LEADS[0], ("quick", "a", "c")])
        # Their sequence is the book's: None ahead of numbers, leads ahead of quick ones.
        many = [("lead", "b", None, 9), ("lead", "a", 0, 5), ("quick", "b", "a"), ("lead", "a", None, 6),
                ("lead", "a", -1, None)]
        self.assertEqual(needless(Book([], many)),
                         [("lead", "a", None, 6), ("lead", "a", -1, None), ("lead", "b", None, 9)])

    def test_slim(self):
        for promises, left in ((self.LEADS, self.LEADS[1:]), (self.QUICK, [self.QUICK[0], self.QUICK[2]]), ([], [])):
            book = Book([("a", 0, 5)], promises)
            self.assertEqual(slim(book), Book([("a", 0, 5)], left))
            self.assertIsInstance(slim(book), Book)
            self.assertEqual(book.promises, Book([], promises).promises)

    def test_promises_that_need_one_another(self):
        """Each follows from the others, so both are needless; slim strikes the last one alone."""
        both = [("lead", "a", None, 1), ("lead", "b", 1, None), ("quick", "a", "b")]
        self.assertEqual(needless(Book([], both)), [("quick", "a", "b")])
        around = [("lead", "a", 0, None), ("lead", "b", 0, None), ("quick", "a", "b"), ("quick", "b", "a")]
        self.assertEqual(needless(Book([], around)), around[:2])
        self.assertEqual(slim(Book([], around)).promises, [around[0], *around[2:]])

    def test_trying(self):
        found = 0
        for _, log, promises in kept_drawn(234, 200, "abc", 2, 7):
            book = Book(log, promises)
            told = book.promises
            due = [promise for promise in told
                   if by_verdict(promise, Book(log, [other for other in told if other != promise]))]
            self.assertEqual(needless(book), due)
            left = list(told)
            for promise in reversed(told):
                others = [other for other in left if other != promise]
                left = others if by_verdict(promise, Book(log, others)) else left
            self.assertEqual(slim(book), Book(log, left))
            self.assertEqual(needless(slim(book)), [])
            # The same promises follow from both.
            self.assertTrue(all(follows(promise, slim(book)) for promise in told))
            found += len(due)
        self.assertGreater(found, 40)

    def test_full_books(self):
        log = [("a", day, day) for day in range(24)]
        promises = [("lead", "a", -number, number) for number in range(12)]
        book = Book(log, promises)
        self.assertEqual(len(book.promises), 12)
        self.assertEqual(needless(book), book.promises[:-1])
        self.assertEqual(slim(book), Book(log, [("lead", "a", 0, 0)]))
        self.assertEqual((sure_lead(book, "a"), quicker(book)), ((0, 0), []))


class Leads(unittest.TestCase):
    def test_sure_lead(self):
        book = Book([("c", 0, 3)], [("lead", "a", 1, None), ("lead", "a", -1, 7), ("quick", "a", "b"),
                                    ("lead", "d", None, 9), ("quick", "b", "d")])
        self.assertEqual([sure_lead(book, rule) for rule in "abcde"],
                         [(1, 7), (1, 9), (None, None), (1, 9), (None, None)])

    def test_one_number_after_another(self):
        found = {}
        for draw, log, promises in kept_drawn(235, 80):
            book = Book(log, promises)
            for rule in "abcd":
                least, most = sure_lead(book, rule)
                leasts = [number for number in range(-6, 7) if by_verdict(("lead", rule, number, None), book)]
                mosts = [number for number in range(-6, 7) if by_verdict(("lead", rule, None, number), book)]
                self.assertEqual((least, most), (max(leasts, default=None), min(mosts, default=None)))
                kind = (least is None, most is None)
                found[kind] = found.get(kind, 0) + 1
        self.assertEqual(len(found), 4, found)

    def test_rules(self):
        for value in wrong.NOT_RULES:
            for book in (EMPTY, BROKEN):
                check_refused(self, InvalidRule, value, lambda: sure_lead(book, value))


class Quicker(unittest.TestCase):
    def test_quicker(self):
        book = Book([("d", 0, 0)], [("quick", "a", "b"), ("quick", "b", "c"), ("lead", "e", 0, 3), ("lead", "f", 3, 4)])
        self.assertEqual(quicker(book), [("a", "b"), ("a", "c"), ("b", "c"), ("e", "f")])
        self.assertEqual(quicker(EMPTY), [])
        self.assertEqual(quicker(Book([], [("quick", "h", "a"), ("quick", "a", "h")])), [("a", "h"), ("h", "a")])
        self.assertEqual(quicker(Book([], [("lead", "a", 2, 2), ("lead", "b", 2, 2)])), [("a", "b"), ("b", "a")])

    def test_all_pairs(self):
        found = 0
        for _, log, promises in kept_drawn(236, 80):
            book = Book(log, promises)
            named = [rule for rule in RULES if rule in book.rules]
            due = [(rule, other) for rule in named for other in named
                   if rule != other and by_verdict(("quick", rule, other), book)]
            self.assertEqual(quicker(book), due)
            found += len(due)
        self.assertGreater(found, 60)


class Refused(unittest.TestCase):
    def test_broken_books(self):
        for book in BROKEN_BOOKS:
            for call in (lambda: follows(("quick", "a", "b"), book), lambda: needless(book), lambda: slim(book),
                         lambda: sure_lead(book, "a"), lambda: quicker(book)):
                check_broken(self, call)


if __name__ == "__main__":
    unittest.main()
