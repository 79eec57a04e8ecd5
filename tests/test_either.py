"""Pairs of days: the one formula in time by the first number, or the other by the second one."""

import unittest

from leadrules.books import Book
from leadrules.either import either_breaks, either_saying, either_slack
from leadrules.errors import InvalidCount, InvalidFormula, InvalidPair
from leadrules.laid import is_break
from leadrules.slack import least_slack
from leadrules.verdicts import verdict
from tests import drawn, known_books, wrong
from tests.test_formulas import tower
from tests.test_slack import BROKEN, check_broken
from tests.wrong import check_refused, check_too_many

X, Y = ("day", "x"), ("day", "y")
EMPTY = Book([], [])
SERVED, OTHER = ("on", "a", X), ("on", "b", Y)
BOTH = Book([], [("lead", "a", 0, 2), ("lead", "b", 0, 3)])


def slow_pairs(formulas, book, most):
    """All pairs up to most, by asking the verdict for each."""
    numbers = range(most + 1)
    return [(j, k) for j in numbers for k in numbers if verdict(either_saying(*formulas, (j, k)), book) == "all"]


def slow_least(pairs):
    return [(j, k) for j, k in pairs if not any((i, l) != (j, k) and i <= j and l <= k for i, l in pairs)]


def slow_greatest(pairs, most):
    """The tuples that are no pairs, but with one more are, or are at most."""
    numbers = range(most + 1)
    return [(j, k) for j in numbers for k in numbers if (j, k) not in pairs
            and ((j + 1, k) in pairs or j == most) and ((j, k + 1) in pairs or k == most)]


class Saying(unittest.TestCase):
    def test_saying(self):
        self.assertEqual(either_saying(X, Y, SERVED, OTHER, (0, 12)),
                         ("or", ("le", X, ("add", 0, Y)), ("le", SERVED, ("add", 12, OTHER))))

    def test_refused(self):
        for value in wrong.NOT_PAIRS:
            check_refused(self, InvalidPair, value, lambda: either_saying(X, Y, tower(70), X, value))
        for at in range(4):
            for value in wrong.NOT_FORMULAS:
                formulas = [X] * at + [value] + [None] * (3 - at)
                check_refused(self, InvalidFormula, value, lambda: either_saying(*formulas, None))

    def test_pieces(self):
        self.assertEqual(known_books.pieces(either_saying(tower(51), X, Y, Y, (0, 0))), 60)
        check_too_many(self, "pieces", 60, lambda: either_saying(tower(52), X, Y, Y, (0, 0)))


class Slack(unittest.TestCase):
    def test_leads(self):
        self.assertEqual(either_slack(SERVED, X, OTHER, Y, BOTH, 3), [(0, 3), (2, 0)])
        self.assertEqual(either_slack(SERVED, X, OTHER, Y, BOTH, 2), [(2, 0)])
        self.assertEqual(either_slack(SERVED, X, OTHER, Y, BOTH, 1), [])
        self.assertEqual(either_slack(SERVED, X, OTHER, Y, BOTH, 12), [(0, 3), (2, 0)])

    def test_from_none_to_twelve(self):
        self.assertEqual(either_slack(X, X, X, Y, EMPTY, 0), [(0, 0)])
        self.assertEqual(either_slack(X, Y, Y, X, EMPTY, 0), [(0, 0)])
        self.assertEqual(either_slack(X, Y, Y, X, EMPTY, 12), [(0, 0)])
        self.assertEqual(either_slack(("num", 12), ("num", 0), ("num", 12), ("num", 0), EMPTY, 12), [(0, 12), (12, 0)])
        self.assertEqual(either_slack(("num", 13), ("num", 0), ("num", 13), ("num", 0), EMPTY, 12), [])
        self.assertEqual(either_breaks(X, X, X, Y, EMPTY, 0), {})

    def test_no_pair_at_all(self):
        self.assertEqual(either_slack(SERVED, X, OTHER, Y, EMPTY, 5), [])
        broken = either_breaks(SERVED, X, OTHER, Y, EMPTY, 5)
        self.assertEqual(list(broken), [(5, 5)])
        self.assertIs(is_break(broken[(5, 5)], either_saying(SERVED, X, OTHER, Y, (5, 5)), EMPTY), True)

    def test_one_that_makes_up_for_the_other(self):
        # What a rule serves late in one half it makes up for in the other one.
        book = Book([], [("lead", "a", 0, 4)])
        first, second = ("on", "a", ("num", 0)), ("add", 4, ("num", 0))
        pairs = either_slack(first, ("num", 0), second, first, book, 6)
        self.assertEqual(pairs, [(0, 3), (1, 2), (2, 1), (3, 0)])
        self.assertEqual(list(either_breaks(first, ("num", 0), second, first, book, 6)), [(0, 2), (1, 1), (2, 0)])

    def test_by_asking_for_all_pairs(self):
        found = {0: 0, 1: 0, 2: 0}
        for draw, lists, log, promises in known_books.kept_books(180, 60):
            promises = promises + [("lead", rule, *drawn.world(lists)[rule].leads()) for rule in "ab"]
            formulas = [drawn.formula(draw, 1, "x") for _ in range(4)]
            book, most = Book(log, promises), draw.randint(0, 4)
            pairs = slow_pairs(formulas, book, most)
            least = either_slack(*formulas, book, most)
            self.assertEqual(least, slow_least(pairs))
            self.assertEqual([pair[1] for pair in least], sorted([pair[1] for pair in least], reverse=True))
            broken = either_breaks(*formulas, book, most)
            self.assertEqual(list(broken), slow_greatest(pairs, most))
            for pair, picture in broken.items():
                self.assertIs(is_break(picture, either_saying(*formulas, pair), book), True)
            found[min(len(least), 2)] += 1
        self.assertTrue(found[0] > 5 and found[1] > 5, found)

    def test_each_alone(self):
        # The slacks alone make pairs with 0.
        for draw, lists, log, promises in known_books.kept_books(181, 40):
            promises = promises + [("lead", rule, *drawn.world(lists)[rule].leads()) for rule in "ab"]
            formulas, book = [drawn.formula(draw, 1, "x") for _ in range(4)], Book(log, promises)
            slack = least_slack(*formulas[:2], book)
            if slack is not None and 0 <= slack <= 12:
                least = either_slack(*formulas, book, 12)
                self.assertTrue(least and max(pair[0] for pair in least) <= slack)


class Refused(unittest.TestCase):
    CALLS = (either_slack, either_breaks)

    def test_sequence(self):
        long = tower(70)
        for call in self.CALLS:
            for value in wrong.NOT_COUNTS:
                check_refused(self, InvalidCount, value, lambda: call(X, Y, long, X, BROKEN, value))
            check_refused(self, InvalidFormula, None, lambda: call(X, long, Y, None, BROKEN, None))
            check_broken(self, lambda: call(X, Y, long, X, BROKEN, 13))
            check_too_many(self, "pieces", 60, lambda: call(X, Y, long, X, EMPTY, 13))
            check_too_many(self, "most", 12, lambda: call(X, Y, Y, X, EMPTY, 13))
            check_too_many(self, "most", 12, lambda: call(X, Y, Y, X, EMPTY, 10 ** 12))

    def test_pieces(self):
        for call in self.CALLS:
            check_too_many(self, "pieces", 60, lambda: call(tower(52), X, Y, Y, EMPTY, 0))
        self.assertEqual(either_slack(tower(51), X, Y, Y, EMPTY, 0), [(0, 0)])


if __name__ == "__main__":
    unittest.main()
