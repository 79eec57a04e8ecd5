"""Reasons, needed rows, quarrels and causes."""

import random
import unittest
from itertools import combinations

from leadrules.books import Book
from leadrules.errors import InvalidRows, InvalidSaying, MissingRow
from leadrules.laid import is_break
from leadrules.reasons import (all_reasons, enough, first_cause, first_quarrel, first_reason, is_cause, is_quarrel,
                               is_reason, is_reason_paper, needed_rows, reason_paper)
from leadrules.slack import least_slack
from leadrules.trees import is_tree
from leadrules.verdicts import verdict
from tests import drawn, known_books, slow, slowtrees, wrong
from tests.test_laid import slow_holds
from tests.test_sayings import nots
from tests.test_slack import BROKEN, check_broken
from tests.test_sure import BROKEN_BOOKS
from tests.wrong import check_missing, check_refused, check_too_many, raised

X = ("day", "x")
ZERO = ("num", 0)
EMPTY = Book([], [])
LOG = [("a", 5, 6), ("a", 7, 8), ("b", 0, 4)]
ROWS = Book(LOG, [])


def le(first, second):
    return ("le", first, second)


def on(rule, day):
    return ("on", rule, ("num", day))


# Either of the rows of a is enough; both that and the row of b are needed for the second saying.
EARLY = le(on("a", 4), ("num", 9))
BOTH = ("and", EARLY, le(on("b", -1), ("num", 4)))


def subsets(things):
    """All lists of some of the things, in their sequence, those of fewer ones first."""
    return [list(some) for many in range(len(things) + 1) for some in combinations(things, many)]


def slow_reasons(holds, rows):
    """All lists of rows that are enough, while without any one of them they are not."""
    truths = {tuple(some): holds(some) for some in subsets(rows)}
    return sorted(list(some) for some in truths if truths[some]
                  and not any(truths[tuple(row for row in some if row != left)] for left in some))


def struck(holds, rows):
    """The rows that are left, struck from the last one to the first one."""
    left = list(rows)
    for row in reversed(rows):
        fewer = [other for other in left if other != row]
        if holds(fewer):
            left = fewer
    return left


def kept(rows, promises):
    """Whether some rules keep a book, reckoned slowly."""
    return slow.clash({}, rows, promises) is None


def tight_sayings(seed, many, rows=5, promises=3):
    """Sayings that just hold beside books that hidden worlds keep: (draw, saying, log, promises)."""
    for draw, _, log, told in known_books.kept_books(seed, many, "ab", rows, promises):
        book, log = Book(log, told), sorted(set(log))
        parts = []
        for _ in range(6):
            names = draw.choice(("", "", "x"))
            first, second = [numbers_in(drawn.formula(draw, 2, "x"), draw, names) for _ in "tu"]
            most = least_slack(first, second, book)
            if most is not None and known_books.pieces(first) + known_books.pieces(second) < 20:
                parts.append(le(first, ("add", most, second)))
        if parts:
            word, more = draw.choice(("and", "and", "or")), parts[1:draw.choice((1, 2))]
            yield draw, ((word, parts[0], more[0]) if more else parts[0]), log, book.promises


def numbers_in(told, draw, names):
    """A formula with numbers in the place of all other names."""
    if told[0] == "day" and told[1] not in names:
        return ("num", draw.randint(-6, 6))
    return tuple(numbers_in(part, draw, names) if isinstance(part, tuple) else part for part in told)


class Enough(unittest.TestCase):
    def test_enough(self):
        for rows, due in ((LOG, True), (LOG[:1], True), (LOG[1:2], True), (LOG[:2], True), (LOG[2:], False), ([], False)):
            self.assertIs(enough(rows, EARLY, ROWS), due)
            self.assertIs(enough(tuple(rows), EARLY, ROWS), due)
            # In any sequence, and twice.
            self.assertIs(enough(rows[::-1] + rows, EARLY, ROWS), due)
        self.assertIs(enough([], le(X, X), EMPTY), True)
        self.assertIs(enough([], le(X, ZERO), EMPTY), False)
        self.assertIs(enough(LOG, le(on("a", 4), ("num", 5)), ROWS), False)

    def test_all_promises_stay(self):
        book = Book(LOG, [("lead", "a", None, 5)])
        self.assertIs(enough([], EARLY, book), True)
        self.assertIs(enough([], le(on("a", 4), ("num", 8)), book), False)

    def test_more_than_eight_rows(self):
        log = [("a", day, 2 * day) for day in range(24)]
        self.assertIs(enough(log[5:], le(on("a", 3), ("num", 10)), Book(log, [])), True)
        self.assertIs(enough(log[6:], le(on("a", 3), ("num", 10)), Book(log, [])), False)

    def test_missing_rows(self):
        for rows in ([("a", 5, 7)], LOG + [("a", 5, 7), ("c", 0, 0)], [("a", 5, 7), ("a", 5, 8)]):
            check_missing(self, MissingRow, "row", ("a", 5, 7), lambda: enough(rows, EARLY, ROWS))
        # Behind the errors of the parameters, ahead of BrokenBook and TooMany.
        row = ("c", 0, 0)
        check_refused(self, InvalidSaying, None, lambda: enough([row], None, BROKEN))
        check_missing(self, MissingRow, "row", row, lambda: enough([row], nots(70), BROKEN))
        check_broken(self, lambda: enough([], nots(70), BROKEN))
        check_broken(self, lambda: enough(BROKEN.log[:1], EARLY, BROKEN))
        check_too_many(self, "pieces", 60, lambda: enough([], nots(58), EMPTY))

    def test_wrong_rows(self):
        for value in wrong.NOT_ROW_LISTS + [[("a", 5, 6), ("a", 5, True)], [("c", 0, 0), None]]:
            check_refused(self, InvalidRows, value, lambda: enough(value, None, BROKEN))


class Reasons(unittest.TestCase):
    def test_first_reason(self):
        self.assertEqual(first_reason(EARLY, ROWS), LOG[:1])
        self.assertEqual(first_reason(BOTH, ROWS), [LOG[0], LOG[2]])
        # The last row is struck first: that of b, then that on 7.
        self.assertEqual(first_reason(("or", EARLY, le(on("b", 0), ("num", 4))), ROWS), LOG[:1])

    def test_all_reasons(self):
        self.assertEqual(all_reasons(EARLY, ROWS), [LOG[:1], LOG[1:2]])
        self.assertEqual(all_reasons(BOTH, ROWS), [[LOG[0], LOG[2]], [LOG[1], LOG[2]]])
        either = ("or", EARLY, le(on("b", 0), ("num", 4)))
        self.assertEqual(all_reasons(either, ROWS), [LOG[:1], LOG[1:2], LOG[2:]])

    def test_reasons_of_unlike_lengths(self):
        # On day 4 by the one row alone, or by those of a and b together.
        saying = ("or", le(on("c", 4), ("num", 9)), ("and", le(on("a", 0), ZERO), le(on("b", 0), ZERO)))
        log = [("a", 0, 0), ("b", 0, 0), ("c", 5, 9)]
        self.assertEqual(all_reasons(saying, Book(log, [])), [log[:2], log[2:]])
        self.assertEqual(first_reason(saying, Book(log, [])), log[:2])
        self.assertEqual(needed_rows(saying, Book(log, [])), [])

    def test_no_row_is_needed(self):
        for saying in (le(X, X), le(("on", "a", X), ("on", "a", ("add", 1, X)))):
            for book in (EMPTY, ROWS):
                self.assertEqual(first_reason(saying, book), [])
                self.assertEqual(all_reasons(saying, book), [[]])
                self.assertEqual(needed_rows(saying, book), [])
                self.assertIs(is_reason([], saying, book), True)
                self.assertEqual(reason_paper(saying, book)[0::2], ([], []))

    def test_where_it_does_not_hold(self):
        for saying in (le(X, ZERO), le(on("a", 4), ("num", 5))):
            self.assertIsNone(first_reason(saying, ROWS))
            self.assertEqual(all_reasons(saying, ROWS), [])
            self.assertIsNone(needed_rows(saying, ROWS))
            self.assertIsNone(reason_paper(saying, ROWS))
            self.assertIsNone(first_cause(saying, ROWS))
            for rows in subsets(LOG):
                self.assertIs(is_reason(rows, saying, ROWS), False)
                self.assertIs(is_cause((rows, []), saying, ROWS), False)

    def test_needed_rows(self):
        self.assertEqual(needed_rows(EARLY, ROWS), [])
        self.assertEqual(needed_rows(BOTH, ROWS), LOG[2:])
        self.assertEqual(needed_rows(le(on("a", 4), ("num", 6)), ROWS), LOG[:1])

    def test_is_reason(self):
        for value, due in (([LOG[0], LOG[2]], True), ((LOG[1], LOG[2]), True), ([LOG[2], LOG[0]], False),
                           ([LOG[0], LOG[2], LOG[2]], False), (LOG, False), ([], False), (LOG[2:], False),
                           ([LOG[0]], False), ([LOG[0], ("b", 0, 5)], False), ([LOG[0], ("b", 0, 4), ("c", 1, 1)], False),
                           ([list(LOG[0]), LOG[2]], False), ([LOG[0], ("b", False, 4)], False),
                           ({LOG[0]: 1, LOG[2]: 1}, False), ((LOG[0], LOG[2], None), False)):
            self.assertIs(is_reason(value, BOTH, ROWS), due, value)
        # Rows of the log that are enough beside another book.
        self.assertIs(is_reason([("a", 4, 4)], EARLY, ROWS), False)
        for value in wrong.ANYTHING:
            self.assertIs(is_reason(value, BOTH, ROWS), False)

    def test_eight_rows_and_nine(self):
        log = [("a", day, day) for day in range(9)]
        saying = le(on("a", -1), ("num", 3))
        self.assertEqual(all_reasons(saying, Book(log[:8], [])), [[row] for row in log[:4]])
        check_too_many(self, "rows", 8, lambda: all_reasons(saying, Book(log, [])))
        check_too_many(self, "rows", 8, lambda: all_reasons(nots(70), Book(log, [])))
        check_too_many(self, "rows", 8, lambda: all_reasons(le(X, ZERO), Book(log, [])))
        check_broken(self, lambda: all_reasons(nots(70), Book(log + [("a", 0, -1)], [])))
        check_too_many(self, "pieces", 60, lambda: all_reasons(nots(70), Book(log[:8], [])))
        # The other functions take a full log.
        full = Book([("a", day, day) for day in range(24)], [])
        self.assertEqual(first_reason(saying, full), [("a", 0, 0)])
        self.assertEqual(needed_rows(saying, full), [])
        self.assertEqual(needed_rows(le(on("a", 22), ("num", 22)), full), [("a", 22, 22)])

    def test_trying_all_sets_of_rows(self):
        found = {0: 0, 1: 0, 2: 0}
        for draw, saying, log, promises in tight_sayings(220, 160):
            book = Book(log, promises)
            reasons = slow_reasons(lambda rows: verdict(saying, Book(rows, promises)) == "all", log)
            found[min(max(len(rows) for rows in reasons), 2)] += 1
            self.assertEqual(all_reasons(saying, book), reasons)
            self.assertEqual(first_reason(saying, book),
                             struck(lambda rows: verdict(saying, Book(rows, promises)) == "all", log))
            self.assertIn(first_reason(saying, book), reasons)
            self.assertEqual(needed_rows(saying, book), [row for row in log if all(row in rows for rows in reasons)])
            for rows in subsets(log):
                self.assertIs(is_reason(rows, saying, book), rows in reasons)
                self.assertIs(enough(rows, saying, book), any(set(some) <= set(rows) for some in reasons))
        self.assertTrue(min(found.values()) > 10, found)


class Papers(unittest.TestCase):
    def test_papers(self):
        told = 0
        for draw, saying, log, promises in tight_sayings(221, 100):
            book = Book(log, promises)
            rows, paper, pictures = reason_paper(saying, book)
            self.assertEqual(rows, first_reason(saying, book))
            self.assertTrue(slowtrees.Judge(saying, rows, promises).is_tree(paper))
            self.assertEqual(len(pictures), len(rows))
            for row, picture in zip(rows, pictures):
                told += 1
                fewer = [other for other in rows if other != row]
                self.assertIsNone(slow.clash(picture[1], fewer, promises))
                self.assertFalse(slow_holds(saying, *picture, fewer, promises))
            self.assertIs(is_reason_paper((rows, paper, pictures), saying, book), True)
            self.assertIs(is_reason_paper((tuple(rows), paper, tuple(pictures)), saying, book), True)
            if rows:
                for value in ((rows, paper, pictures[:-1]), (rows, paper, pictures + pictures[:1]),
                              (rows[1:], paper, pictures[1:]), (rows[1:], paper, pictures), ([], paper, [])):
                    self.assertIs(is_reason_paper(value, saying, book), False)
        self.assertGreater(told, 40)

    def test_spoilt_ones(self):
        rows, paper, pictures = reason_paper(BOTH, ROWS)
        self.assertEqual(rows, [LOG[0], LOG[2]])
        for value in ((rows[::-1], paper, pictures[::-1]), (rows, paper, pictures[::-1]), (rows, pictures, paper),
                      (rows, paper), [rows, paper, pictures], (rows, paper, pictures, []), (LOG, paper, pictures),
                      (rows, None, pictures), (rows, ("ring", []), pictures), (rows, paper, [pictures[0], None]),
                      (rows, paper, [({}, {})] * 2), (rows, paper, {0: pictures[0], 1: pictures[1]}),
                      (None, paper, pictures), (rows, paper, None), ([LOG[0], ("b", 0, True)], paper, pictures)):
            self.assertIs(is_reason_paper(value, BOTH, ROWS), False, value)
        self.assertIs(is_reason_paper((rows, paper, pictures), EARLY, ROWS), False)
        self.assertIs(is_reason_paper((rows, paper, pictures), BOTH, Book(LOG[1:], [])), False)
        for value in wrong.ANYTHING:
            self.assertIs(is_reason_paper(value, BOTH, ROWS), False)
            self.assertIs(is_reason_paper((rows, value, pictures), BOTH, ROWS), False)
            self.assertIs(is_reason_paper((value, paper, pictures), BOTH, ROWS), False)
            self.assertIs(is_reason_paper((rows, paper, value), BOTH, ROWS), False)

    def test_of_any_reason(self):
        rows = [LOG[1], LOG[2]]
        paper = reason_paper(BOTH, Book(rows, []))
        self.assertEqual(paper[0], rows)
        self.assertIs(is_reason_paper(paper, BOTH, ROWS), True)
        # The pictures are of the book of the reason's rows alone.
        self.assertIs(is_break(paper[2][0], BOTH, Book(LOG[2:], [])), True)
        self.assertIs(is_tree(paper[1], BOTH, Book(rows, [])), True)


class Quarrels(unittest.TestCase):
    def test_quarrels(self):
        book = Book([("a", 0, 5), ("a", 1, 4), ("a", 2, 3), ("b", 0, 0)], [])
        self.assertEqual(first_quarrel(book), [("a", 0, 5), ("a", 1, 4)])
        for rows, due in ((book.log[:2], True), (book.log[1:3], True), ([book.log[0], book.log[2]], True),
                          (tuple(book.log[:2]), True), (book.log[:3], False), (book.log[:1], False), ([], False),
                          (book.log[1::-1], False), (book.log[:1] * 2 + book.log[1:2], False),
                          ([("a", 0, 5), ("a", 0, 6)], False)):
            self.assertIs(is_quarrel(rows, book), due, rows)

    def test_empty_ones(self):
        torn = Book([("a", 0, 5), ("a", 0, 6)], [("lead", "a", 3, 2)])
        self.assertEqual(first_quarrel(torn), [])
        self.assertIs(is_quarrel([], torn), True)
        self.assertIs(is_quarrel((), torn), True)
        self.assertIs(is_quarrel(torn.log, torn), False)

    def test_one_row_against_a_promise(self):
        book = Book([("a", 0, 9), ("a", 3, 9), ("b", 0, 0)], [("lead", "b", None, 8), ("quick", "a", "b")])
        self.assertEqual(first_quarrel(book), [("a", 0, 9)])
        self.assertIs(is_quarrel([("a", 3, 9)], book), False)
        self.assertIs(is_quarrel([("a", 3, 9), ("b", 0, 0)], book), False)

    def test_books_that_are_not_broken(self):
        for book in (EMPTY, ROWS, Book(LOG, [("quick", "a", "b")])):
            self.assertIsNone(first_quarrel(book))
            for rows in subsets(book.log):
                self.assertIs(is_quarrel(rows, book), False)

    def test_any_value(self):
        for value in wrong.ANYTHING:
            self.assertIs(is_quarrel(value, BROKEN), False)
            self.assertIs(is_quarrel(value, EMPTY), False)
        for value in ([("a", False, 1), ("a", 0, 2)], [["a", 0, 1], ("a", 0, 2)], {("a", 0, 1): 0, ("a", 0, 2): 0}):
            self.assertIs(is_quarrel(value, BROKEN), False)
        self.assertIs(is_quarrel([("a", 0, 1), ("a", 0, 2)], BROKEN), True)

    def test_full_logs(self):
        book = Book([("a", day, -day) for day in range(24)], [])
        self.assertEqual(first_quarrel(book), [("a", 0, 0), ("a", 1, -1)])

    def test_trying_all_sets_of_rows(self):
        draw = random.Random(222)
        found = {0: 0, 1: 0, 2: 0}
        for _ in range(300):
            log = sorted({drawn.row(draw, "abc") for _ in range(draw.randint(0, 5))})
            promises = [drawn.promise(draw, "abc") for _ in range(draw.randint(0, 4))]
            book = Book(log, promises)
            quarrels = slow_reasons(lambda rows: not kept(rows, promises), log)
            if kept(log, promises):
                self.assertEqual((quarrels, first_quarrel(book)), ([], None))
            else:
                found[min(max(len(rows) for rows in quarrels), 2)] += 1
                self.assertEqual(first_quarrel(book), struck(lambda rows: not kept(rows, promises), log))
                self.assertIn(first_quarrel(book), quarrels)
            for rows in subsets(log):
                self.assertIs(is_quarrel(rows, book), rows in quarrels)
        self.assertTrue(min(found.values()) > 10, found)


class Causes(unittest.TestCase):
    CHAIN = [("lead", "b", 1, None), ("quick", "b", "a"), ("quick", "b", "c"), ("quick", "c", "a")]

    def test_causes(self):
        book = Book(LOG, self.CHAIN)
        saying = le(("add", 1, X), ("on", "a", X))
        # quick b a is struck last, and cannot be: the way by c is gone.
        self.assertEqual(first_cause(saying, book), ([], [("lead", "b", 1, None), ("quick", "b", "a")]))
        self.assertEqual(first_cause(EARLY, book), ([("a", 5, 6)], []))
        by_c = ([], [("lead", "b", 1, None), ("quick", "b", "c"), ("quick", "c", "a")])
        self.assertIs(is_cause(by_c, saying, book), True)
        self.assertIs(is_cause(([], tuple(by_c[1])), saying, book), True)
        for value in (([], book.promises), ([], by_c[1][1:]), ([], by_c[1][::-1]), ([], by_c[1][:1] + by_c[1]),
                      (LOG[:1], by_c[1]), ([], []), ([], self.CHAIN[:2] + self.CHAIN[2:3]), (by_c[1], []),
                      [[], by_c[1]], ([], by_c[1], []), ([],), ([], [list(promise) for promise in by_c[1]]),
                      ([], [("lead", "b", True, None)] + by_c[1][1:]), ([], {promise: 1 for promise in by_c[1]})):
            self.assertIs(is_cause(value, saying, book), False, value)
        for value in wrong.ANYTHING:
            self.assertIs(is_cause(value, saying, book), False)
            self.assertIs(is_cause(([], value), saying, book), False)
            no_rows = isinstance(value, (list, tuple)) and len(value) == 0
            self.assertIs(is_cause((value, by_c[1]), saying, book), no_rows)

    def test_promises_are_struck_first(self):
        # By the lead or by the row: the lead goes first.
        book = Book([("a", 4, 9)], [("lead", "a", None, 5)])
        self.assertEqual(first_cause(EARLY, book), ([("a", 4, 9)], []))
        self.assertEqual(first_reason(EARLY, book), [])
        self.assertIs(is_cause(([], [("lead", "a", None, 5)]), EARLY, book), True)
        self.assertIs(is_cause(([("a", 4, 9)], [("lead", "a", None, 5)]), EARLY, book), False)

    def test_rows_and_promises_together(self):
        book = Book([("a", 5, 6), ("b", 4, 7)], [("quick", "a", "b"), ("lead", "b", 0, None)])
        saying = ("and", le(on("a", 4), ("num", 6)), le(("num", 4), on("b", 4)))
        self.assertEqual(first_cause(saying, book), ([("a", 5, 6), ("b", 4, 7)], []))
        saying = le(on("a", 4), ("num", 7))
        self.assertEqual(first_cause(saying, book), ([("a", 5, 6)], []))
        book = Book([("b", 4, 7)], book.promises)
        self.assertEqual(first_cause(saying, book), ([("b", 4, 7)], [("quick", "a", "b")]))
        self.assertEqual(first_cause(le(X, X), book), ([], []))

    def test_trying_all_sets(self):
        found = 0
        for draw, saying, log, promises in tight_sayings(223, 90, 3, 3):
            book = Book(log, promises)
            truths = {(tuple(rows), tuple(told)): verdict(saying, Book(rows, told)) == "all"
                      for rows in subsets(log) for told in subsets(promises)}
            due = []
            for (rows, told), truth in truths.items():
                fewer = [(tuple(row for row in rows if row != left), told) for left in rows]
                fewer += [(rows, tuple(promise for promise in told if promise != left)) for left in told]
                cause = truth and not any(truths[some] for some in fewer)
                self.assertIs(is_cause((list(rows), list(told)), saying, book), cause)
                due += [(list(rows), list(told))] if cause else []
            kept_promises = struck(lambda told: truths[tuple(log), tuple(told)], promises)
            rows = struck(lambda some: truths[tuple(some), tuple(kept_promises)], log)
            self.assertEqual(first_cause(saying, book), (rows, kept_promises))
            self.assertIn((rows, kept_promises), due)
            found += bool(rows and kept_promises)
        self.assertGreater(found, 5)


class Refused(unittest.TestCase):
    CALLS = [first_reason, all_reasons, needed_rows, reason_paper, first_cause,
             lambda *told: enough([], *told), lambda *told: is_reason(None, *told),
             lambda *told: is_reason_paper(None, *told), lambda *told: is_cause(None, *told)]

    def test_sequence(self):
        for call in self.CALLS:
            for value in wrong.NOT_SAYINGS:
                check_refused(self, InvalidSaying, value, lambda: call(value, BROKEN))
            for book in BROKEN_BOOKS:
                check_broken(self, lambda: call(nots(70), book))
                check_broken(self, lambda: call(le(X, X), book))
            check_too_many(self, "pieces", 60, lambda: call(nots(58), EMPTY))
            self.assertIsNone(raised(lambda: call(nots(57), EMPTY)))

    def test_quarrels_of_all_books(self):
        for book in BROKEN_BOOKS:
            self.assertIsNone(raised(lambda: first_quarrel(book)))
            self.assertIs(is_quarrel(first_quarrel(book), book), True)


if __name__ == "__main__":
    unittest.main()
