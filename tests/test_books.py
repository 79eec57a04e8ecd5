"""Books: their rows and promises, and the Books made of them."""

import itertools
import random
import unittest

from leadrules.books import Book
from leadrules.errors import InvalidPromise, InvalidRow, MissingPromise, MissingRow
from tests import drawn, wrong
from tests.wrong import check_refused, check_too_many, raised

ROWS = [("a", day, day) for day in range(26)]
PROMISES = [("lead", "a", least, None) for least in range(14)]


class Kept(unittest.TestCase):
    def test_rows_are_sorted_none_twice(self):
        told = [("b", 0, 1), ("a", 5, 2), ("a", -1, 3), ("a", 5, 1), ("b", 0, 1), ("a", 10, 0)]
        self.assertEqual(Book(told, []).log, [("a", -1, 3), ("a", 5, 1), ("a", 5, 2), ("a", 10, 0), ("b", 0, 1)])
        for order in itertools.permutations(told[:4]):
            self.assertEqual(Book(tuple(order), []).log, sorted(told[:4]))

    def test_promises_are_sorted_none_twice(self):
        due = [("lead", "a", None, -5), ("lead", "a", None, 3), ("lead", "a", -4, None), ("lead", "a", -4, 0),
               ("lead", "a", 2, None), ("lead", "a", 2, 1), ("lead", "b", None, 0), ("quick", "a", "b"),
               ("quick", "a", "c"), ("quick", "b", "a")]
        draw = random.Random(41)
        for _ in range(20):
            told = due + due[:2]
            draw.shuffle(told)
            self.assertEqual(Book([], told).promises, due)
            self.assertEqual(Book((), tuple(told)).promises, due)

    def test_what_no_rules_keep(self):
        rows = [("a", 0, 1), ("a", 0, 2), ("a", 1, 0)]
        promises = [("lead", "a", 5, 3), ("quick", "a", "b"), ("quick", "b", "a"), ("quick", "c", "a")]
        self.assertEqual((Book(rows, promises).log, Book(rows, promises).promises), (rows, promises))

    def test_rules(self):
        self.assertEqual(Book([], []).rules, [])
        book = Book([("h", 0, 1), ("b", 0, 1)], [("quick", "g", "c"), ("lead", "d", 1, None)])
        self.assertEqual(book.rules, ["b", "c", "d", "g", "h"])
        self.assertEqual(Book([("a", 0, 1), ("a", 2, 3)], [("quick", "b", "a")]).rules, ["a", "b"])

    def test_rows_of(self):
        book = Book([("b", 3, 1), ("a", 0, 1), ("b", -3, 4)], [("lead", "c", 1, None)])
        self.assertEqual([book.rows_of(rule) for rule in "abcd"], [[(0, 1)], [(-3, 4), (3, 1)], [], []])

    def test_equal(self):
        one = Book([("a", 0, 1), ("b", 0, 1)], [("quick", "a", "b")])
        self.assertTrue(one == Book((("b", 0, 1), ("a", 0, 1), ("a", 0, 1)), (("quick", "a", "b"),)))
        self.assertFalse(one != Book([("b", 0, 1), ("a", 0, 1)], [("quick", "a", "b")]))
        for other in (Book([("a", 0, 1)], [("quick", "a", "b")]), Book(one.log, []), Book([], one.promises),
                      Book(one.log, [("quick", "b", "a")]), None, 3, "book", (one.log, one.promises), {}, []):
            self.assertFalse(one == other)
            self.assertTrue(one != other)

    def test_what_was_passed_or_returned_may_change(self):
        log, promises = [("a", 0, 1)], [("quick", "a", "b")]
        book = Book(log, promises)
        log.append(("b", 0, 1))
        promises.clear()
        for told in (book.log, book.promises, book.rules, book.rows_of("a")):
            told.append("more")
            told.reverse()
        self.assertEqual((book.log, book.promises, book.rules), ([("a", 0, 1)], [("quick", "a", "b")], ["a", "b"]))


class Refused(unittest.TestCase):
    def test_first_element_that_is_none(self):
        for value in wrong.NOT_ROWS:
            for log in ([value], [("a", 0, 1), value, None], (value, ("b", 0, 1), True)):
                check_refused(self, InvalidRow, value, lambda: Book(log, []))
                check_refused(self, InvalidRow, value, lambda: Book(log, [None]))
        for value in wrong.NOT_PROMISES:
            for promises in ([value], [("lead", "a", 1, None), value, None], (value, True)):
                check_refused(self, InvalidPromise, value, lambda: Book([], promises))

    def test_no_lists(self):
        for value in (None, True, 3, "", {}, {("a", 0, 1): 1}, Book([], []), range(3)):
            check_refused(self, InvalidRow, value, lambda: Book(value, value))
            check_refused(self, InvalidPromise, value, lambda: Book([], value))
        # A row in the place of the log is a list of what are no rows.
        check_refused(self, InvalidRow, "a", lambda: Book(("a", 0, 1), []))
        check_refused(self, InvalidPromise, "quick", lambda: Book([], ("quick", "a", "b")))

    def test_too_many(self):
        self.assertEqual(len(Book(ROWS[:24], PROMISES[:12]).log), 24)
        self.assertEqual(len(Book(ROWS[:24] * 2, PROMISES[:12] * 2).promises), 12)
        check_too_many(self, "rows", 24, lambda: Book(ROWS[:25], []))
        check_too_many(self, "promises", 12, lambda: Book(ROWS[:24], PROMISES[:13]))
        check_too_many(self, "rows", 24, lambda: Book(ROWS[:25], PROMISES[:13]))
        check_refused(self, InvalidPromise, None, lambda: Book(ROWS[:25], [None]))
        check_refused(self, InvalidRow, None, lambda: Book(ROWS[:25] + [None], PROMISES[:13]))

    def test_all_right_promises(self):
        for promise in (("lead", "a", 1, None), ("lead", "a", None, -1), ("lead", "h", 5, 3), ("lead", "a", 0, 0),
                        ("quick", "a", "b"), ("quick", "b", "a")):
            self.assertEqual(Book([], [promise]).promises, [promise])


class Made(unittest.TestCase):
    def setUp(self):
        self.book = Book(ROWS[:3], PROMISES[:2] + [("quick", "b", "a")])
        self.full = Book(ROWS[:24], PROMISES[:12])

    def test_with_and_without_row(self):
        self.assertEqual(self.book.with_row(("a", -1, 0)).log, [("a", -1, 0)] + ROWS[:3])
        self.assertEqual(self.book.without_row(ROWS[1]).log, [ROWS[0], ROWS[2]])
        self.assertEqual(self.book.with_row(ROWS[1]), self.book)
        self.assertEqual(self.book.with_row(ROWS[4]).without_row(ROWS[4]), self.book)
        self.assertEqual(self.book.with_row(ROWS[4]).promises, self.book.promises)
        self.assertEqual(self.book.without_row(ROWS[0]).promises, self.book.promises)
        self.assertEqual(self.book.log, ROWS[:3])

    def test_with_and_without_promise(self):
        self.assertEqual(self.book.with_promise(("quick", "a", "b")).promises,
                         PROMISES[:2] + [("quick", "a", "b"), ("quick", "b", "a")])
        self.assertEqual(self.book.without_promise(PROMISES[0]).promises, [PROMISES[1], ("quick", "b", "a")])
        self.assertEqual(self.book.with_promise(("quick", "b", "a")), self.book)
        self.assertEqual(self.book.with_promise(PROMISES[5]).without_promise(PROMISES[5]), self.book)
        self.assertEqual(self.book.with_promise(PROMISES[5]).log, self.book.log)
        self.assertEqual(self.book.without_promise(PROMISES[0]).log, self.book.log)
        self.assertEqual(len(self.book.promises), 3)

    def test_missing(self):
        for row in (("a", 0, 1), ("b", 0, 0), ("a", 3, 3)):
            check_refused(self, MissingRow, row, lambda: self.book.without_row(row), "row")
        for promise in (("lead", "a", 2, None), ("lead", "a", 0, 0), ("quick", "a", "b")):
            check_refused(self, MissingPromise, promise, lambda: self.book.without_promise(promise), "promise")

    def test_wrong_kinds(self):
        for value in wrong.NOT_ROWS:
            for call in (self.book.with_row, self.book.without_row, self.full.with_row):
                check_refused(self, InvalidRow, value, lambda: call(value))
        for value in wrong.NOT_PROMISES:
            for call in (self.book.with_promise, self.book.without_promise, self.full.with_promise):
                check_refused(self, InvalidPromise, value, lambda: call(value))

    def test_full_books(self):
        check_too_many(self, "rows", 24, lambda: self.full.with_row(ROWS[24]))
        check_too_many(self, "promises", 12, lambda: self.full.with_promise(PROMISES[12]))
        self.assertEqual(self.full.with_row(ROWS[3]), self.full)
        self.assertEqual(self.full.with_promise(PROMISES[3]), self.full)
        self.assertEqual(len(self.full.without_row(ROWS[3]).with_row(ROWS[24]).log), 24)

    def test_joined(self):
        other = Book([("b", 0, 0), ROWS[1]], [("quick", "a", "b"), PROMISES[1]])
        both = self.book.joined(other)
        self.assertEqual(both.log, ROWS[:3] + [("b", 0, 0)])
        self.assertEqual(both.promises, PROMISES[:2] + [("quick", "a", "b"), ("quick", "b", "a")])
        self.assertEqual(other.joined(self.book), both)
        self.assertEqual(self.full.joined(self.full), self.full)
        self.assertEqual(self.book.joined(Book([], [])), self.book)
        check_too_many(self, "rows", 24, lambda: self.full.joined(Book([ROWS[24]], [PROMISES[12]])))
        check_too_many(self, "promises", 12, lambda: self.full.joined(Book([], [PROMISES[12]])))
        self.assertEqual(len(Book(ROWS[:12], []).joined(Book(ROWS[12:24], [])).log), 24)

    def test_drawn(self):
        draw = random.Random(42)
        for _ in range(60):
            rows = [drawn.row(draw, "abc") for _ in range(draw.randint(0, 8))]
            promises = [drawn.promise(draw, "abc") for _ in range(draw.randint(0, 6))]
            built = Book([], [])
            for row in rows:
                built = built.with_row(row)
            for promise in promises:
                built = built.with_promise(promise)
            self.assertEqual(built, Book(rows, promises))
            for row in sorted(set(rows)):
                built = built.without_row(row)
            self.assertEqual(built, Book([], promises))
            self.assertIsNone(raised(lambda: built.joined(Book(rows, []))))


if __name__ == "__main__":
    unittest.main()
