"""Day lists of sayings, and places."""

import random
import unittest

from leadrules.books import Book
from leadrules.daylists import days_of, places_of
from tests import drawn, slow, slowtrees
from tests.test_pictures import drawn_book
from tests.test_sayings import nots
from tests.wrong import check_too_many

X, Y = ("day", "x"), ("day", "y")
ZERO = ("num", 0)
EMPTY = Book([], [])


def le(first, second):
    return ("le", first, second)


class Days(unittest.TestCase):
    def test_the_sequence(self):
        saying = ("and", le(("late", Y, ("add", 2, X)), ("num", 5)), ("not", le(X, ("on", "a", Y))))
        self.assertEqual(days_of(saying), [ZERO, Y, X, ("add", 2, X), ("late", Y, ("add", 2, X)), ("num", 5),
                                           ("on", "a", Y)])

    def test_day_zero_never_again(self):
        self.assertEqual(days_of(le(ZERO, ZERO)), [ZERO])
        self.assertEqual(days_of(le(("add", 0, ZERO), ("num", 1))), [ZERO, ("add", 0, ZERO), ("num", 1)])
        self.assertEqual(days_of(le(X, ("on", "a", ZERO))), [ZERO, X, ("on", "a", ZERO)])

    def test_formulas_that_stand_twice(self):
        told = ("on", "a", X)
        saying = ("or", le(told, told), ("not", ("not", le(("soon", X, told), told))))
        self.assertEqual(days_of(saying), [ZERO, X, told, ("soon", X, told)])
        # The same word with another number, rule or part is another formula.
        saying = ("or", le(("on", "a", X), ("on", "b", X)), le(("add", 1, X), ("add", 2, X)))
        self.assertEqual(len(days_of(saying)), 6)
        self.assertEqual(days_of(le(("late", X, Y), ("late", Y, X))), [ZERO, X, Y, ("late", X, Y), ("late", Y, X)])

    def test_helpers(self):
        by, til = ("by", "a", X), ("til", "b", Y)
        self.assertEqual(days_of(le(by, til)), [
            ZERO, X, by, Y, til, ("on", "a", by), ("on", "a", ("add", -1, by)), ("on", "b", til),
            ("on", "b", ("add", 1, til))])
        self.assertEqual(days_of(le(by, by)), [ZERO, X, by, ("on", "a", by), ("on", "a", ("add", -1, by))])
        # The add within a helper has no day number.
        self.assertNotIn(("add", -1, by), days_of(le(by, til)))

    def test_helpers_in_the_sequence_of_their_formulas(self):
        inner = ("by", "a", X)
        outer = ("til", "a", inner)
        self.assertEqual(days_of(le(outer, ("num", 7)))[2:], [
            inner, outer, ("num", 7), ("on", "a", inner), ("on", "a", ("add", -1, inner)), ("on", "a", outer),
            ("on", "a", ("add", 1, outer))])

    def test_helpers_that_are_listed_already(self):
        by = ("by", "a", X)
        first, second = ("on", "a", by), ("on", "a", ("add", -1, by))
        self.assertEqual(days_of(le(first, X)), [ZERO, X, by, first, second])
        self.assertEqual(days_of(le(second, X)), [ZERO, X, by, ("add", -1, by), second, first])
        self.assertEqual(days_of(le(second, first)), [ZERO, X, by, ("add", -1, by), second, first])
        # The add alone does not list the helper.
        self.assertEqual(days_of(le(("add", -1, by), X)), [ZERO, X, by, ("add", -1, by), first, second])
        # Those of another rule are none of this by.
        self.assertEqual(days_of(le(("on", "b", by), X)), [ZERO, X, by, ("on", "b", by), first, second])

    def test_slow_reckoning(self):
        draw = random.Random(100)
        for _ in range(400):
            saying = drawn.saying(draw, 2, 3, "xy")
            if len(slow.pieces(saying)) <= 60:
                self.assertEqual(days_of(saying), slowtrees.days_of(saying))

    def test_deep_formulas(self):
        told = X
        for number in range(28):
            told = ("on", "ab"[number % 2], told)
        self.assertEqual(len(days_of(le(told, ("by", "a", told)))), 1 + 1 + 28 + 1 + 2)
        self.assertEqual(len(places_of(le(told, ("by", "a", told)), EMPTY)), 30)

    def test_sixty_pieces(self):
        self.assertEqual(len(days_of(nots(57))), 3)
        check_too_many(self, "pieces", 60, lambda: days_of(nots(58)))
        check_too_many(self, "pieces", 60, lambda: places_of(nots(58), EMPTY))


class Places(unittest.TestCase):
    def test_the_sequence(self):
        by = ("by", "b", ("on", "a", X))
        saying = le(by, ("til", "a", Y))
        book = Book([("c", 4, 5), ("a", -1, 0), ("a", -3, 0)], [("lead", "a", 0, None)])
        self.assertEqual(days_of(saying)[:6], [ZERO, X, ("on", "a", X), by, Y, ("til", "a", Y)])
        self.assertEqual(places_of(saying, book), [
            ("a", 1, 0, 2, 0), ("b", 3, 0, 6, 0), ("b", 3, -1, 7, 0), ("a", 5, 0, 8, 0), ("a", 5, 1, 9, 0),
            ("a", 0, -3, 0, 0), ("a", 0, -1, 0, 0), ("c", 0, 4, 0, 5)])

    def test_once_each(self):
        told = ("on", "a", X)
        self.assertEqual(places_of(le(told, ("late", told, told)), EMPTY), [("a", 1, 0, 2, 0)])
        by = ("by", "a", X)
        # The first helper is a formula of the saying: one place for both.
        self.assertEqual(places_of(le(("on", "a", by), X), EMPTY), [("a", 2, 0, 3, 0), ("a", 2, -1, 4, 0)])
        # The second one is, too: the same day, told from the add and from the by.
        self.assertEqual(places_of(le(("on", "a", ("add", -1, by)), X), EMPTY),
                         [("a", 3, 0, 4, 0), ("a", 2, 0, 5, 0), ("a", 2, -1, 4, 0)])
        til = ("til", "a", X)
        self.assertEqual(places_of(le(("on", "a", ("add", 1, til)), X), EMPTY),
                         [("a", 3, 0, 4, 0), ("a", 2, 0, 5, 0), ("a", 2, 1, 4, 0)])

    def test_rows_of_other_rules_and_days_asked_on_numbers(self):
        book = Book([("h", 0, 0), ("a", 0, 3)], [])
        self.assertEqual(places_of(le(X, Y), book), [("a", 0, 0, 0, 3), ("h", 0, 0, 0, 0)])
        self.assertEqual(places_of(le(("on", "a", ZERO), X), book),
                         [("a", 0, 0, 1, 0), ("a", 0, 0, 0, 3), ("h", 0, 0, 0, 0)])

    def test_slow_reckoning(self):
        draw = random.Random(101)
        for _ in range(300):
            saying, (log, promises) = drawn.saying(draw, 2, 3, "xy"), drawn_book(draw, "abc")
            if len(slow.pieces(saying)) <= 60:
                self.assertEqual(places_of(saying, Book(log, promises)), slowtrees.places_of(saying, log))

    def test_served_as_told(self):
        """At known Tables the days of a saying's formulas are served as all its places tell."""
        draw = random.Random(102)
        for _ in range(100):
            lists, days, saying = drawn.lists(draw), drawn.days(draw), drawn.saying(draw, 1, 3)
            if len(slow.pieces(saying)) > 60:
                continue
            row = ("a", 3, slow.on(lists["a"], 3))
            listed = [slow.day_of(formula, days, lists) for formula in days_of(saying)]
            for rule, day, shift, answer, answer_shift in places_of(saying, Book([row], [])):
                self.assertEqual(slow.on(lists[rule], listed[day] + shift), listed[answer] + answer_shift)


if __name__ == "__main__":
    unittest.main()
