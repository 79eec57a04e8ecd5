"""Bounds from the beginning, the contrary opened, and the ways of pairs and crosses."""

import random
import unittest

from leadrules.bounds import bounds_of, cross_ways, opened, pair_ways
from leadrules.books import Book
from leadrules.daylists import days_of, places_of
from tests import drawn, known_books, slow, slowtrees
from tests.test_pictures import drawn_book
from tests.test_sayings import nots
from tests.wrong import check_too_many

X, Y = ("day", "x"), ("day", "y")
ZERO = ("num", 0)
EMPTY = Book([], [])


def le(first, second):
    return ("le", first, second)


def many_les(many):
    """So many le of two days, joined by and: 4 * many - 1 pieces, the contrary has so many more."""
    saying = le(X, Y)
    for _ in range(many - 1):
        saying = ("and", saying, le(X, Y))
    return saying


class FromTheBeginning(unittest.TestCase):
    def test_numbers(self):
        self.assertEqual(bounds_of(le(("num", 5), ("num", -3)), EMPTY), [(0, 1, -5), (0, 2, 3), (1, 0, 5), (2, 0, -3)])
        self.assertEqual(bounds_of(le(ZERO, ZERO), EMPTY), [])

    def test_adds(self):
        self.assertEqual(bounds_of(le(X, ("add", 4, X)), EMPTY), [(1, 2, -4), (2, 1, 4)])
        self.assertEqual(bounds_of(le(X, ("add", 0, X)), EMPTY), [(1, 2, 0), (2, 1, 0)])

    def test_by_and_til(self):
        self.assertEqual(bounds_of(le(X, ("by", "a", X)), EMPTY), [(1, 3, 0), (4, 1, -1)])
        self.assertEqual(bounds_of(le(X, ("til", "a", X)), EMPTY), [(1, 4, -1), (3, 1, 0)])

    def test_late_and_soon(self):
        self.assertEqual(bounds_of(le(X, ("late", Y, X)), EMPTY), [(1, 3, 0), (2, 3, 0)])
        self.assertEqual(bounds_of(le(X, ("soon", Y, X)), EMPTY), [(3, 1, 0), (3, 2, 0)])
        # None twice.
        self.assertEqual(bounds_of(le(X, ("late", X, X)), EMPTY), [(1, 2, 0)])

    def test_lows_and_highs(self):
        book = Book([("a", 3, 7)], [("quick", "b", "a"), ("lead", "b", 1, None), ("lead", "a", None, 9)])
        self.assertEqual(bounds_of(le(("on", "a", X), ZERO), book),
                         sorted([(1, 2, -1), (2, 1, 9), (0, 0, 7 - 3 - 1), (0, 0, 9 + 3 - 7)]))
        self.assertEqual(bounds_of(le(("on", "b", X), ZERO), Book([], book.promises)), [(1, 2, -1), (2, 1, 9)])
        self.assertEqual(bounds_of(le(("on", "c", X), ZERO), Book([], book.promises)), [])
        # A place that is shifted.
        self.assertEqual(bounds_of(le(("by", "a", X), ZERO), Book([], [("lead", "a", 2, 5)])),
                         sorted([(1, 3, 0), (4, 1, -1), (2, 3, -2), (3, 2, 5), (2, 4, 1 - 2), (4, 2, 5 - 1)]))

    def test_torn_rules(self):
        book = Book([], [("lead", "c", 5, 3), ("lead", "a", 4, None), ("quick", "a", "b"), ("lead", "b", None, 1)])
        self.assertEqual(bounds_of(le(X, Y), book), [(0, 0, -3), (0, 0, -2)])

    def test_slow_reckoning(self):
        draw = random.Random(110)
        for _ in range(400):
            saying, (log, promises) = drawn.saying(draw, 2, 3, "xy", "abc"), drawn_book(draw, "abc")
            if len(slow.pieces(saying)) <= 60:
                self.assertEqual(bounds_of(saying, Book(log, promises)), slowtrees.bounds_of(saying, log, promises))

    def test_sixty_pieces(self):
        self.assertEqual(bounds_of(nots(57), EMPTY), slowtrees.bounds_of(nots(57), [], []))
        check_too_many(self, "pieces", 60, lambda: bounds_of(nots(58), EMPTY))

    def test_known_tables_keep_them(self):
        for draw, lists, log, promises in known_books.kept_books(111, 120):
            days, saying = drawn.days(draw), drawn.saying(draw, 1, 3)
            if len(slow.pieces(saying)) <= 60:
                listed = [slow.day_of(formula, days, lists) for formula in days_of(saying)]
                for first, second, most in bounds_of(saying, Book(log, promises)):
                    self.assertLessEqual(listed[first] - listed[second], most)


class Opened(unittest.TestCase):
    def test_literals(self):
        self.assertEqual(opened(le(X, Y)), ([(2, 1, -1)], []))
        self.assertEqual(opened(("not", le(X, Y))), ([(1, 2, 0)], []))
        self.assertEqual(opened(le(X, X)), ([(1, 1, -1)], []))
        self.assertEqual(opened(le(X, ZERO)), ([(0, 1, -1)], []))

    def test_what_comes_twice_stands_twice(self):
        self.assertEqual(opened(("or", le(X, Y), ("or", le(Y, X), le(X, Y)))),
                         ([(2, 1, -1), (1, 2, -1), (2, 1, -1)], []))
        both = ("and", le(X, Y), le(Y, X))
        waits = ("or", ("not", le(X, Y)), ("not", le(Y, X)))
        self.assertEqual(opened(("or", both, both)), ([], [waits, waits]))

    def test_waiting_in_sequence(self):
        first, second, third = le(X, Y), le(Y, X), le(X, ZERO)
        self.assertEqual(opened(("and", first, second)), ([], [("or", ("not", first), ("not", second))]))
        saying = ("not", ("and", ("and", ("or", second, third), first), ("and", third, ("or", first, second))))
        self.assertEqual(opened(saying), ([(2, 1, 0), (2, 0, 0)], [("or", second, third), ("or", first, second)]))

    def test_within_an_or_nothing_is_opened(self):
        saying = ("not", ("or", ("and", le(X, Y), le(Y, X)), le(X, Y)))
        self.assertEqual(opened(saying), ([], [saying[1]]))

    def test_pieces_of_the_contrary(self):
        # 11 le of two days joined: 43 pieces, and 54 of the contrary; 12: 47 and 59; 13: 51 and 64.
        self.assertEqual(len(opened(many_les(12))[1]), 1)
        check_too_many(self, "pieces", 60, lambda: opened(many_les(13)))
        check_too_many(self, "pieces", 60, lambda: opened(nots(58)))
        self.assertEqual(opened(nots(57)), ([(1, 2, 0)], []))

    def test_slow_reckoning(self):
        draw = random.Random(112)
        for _ in range(400):
            saying = drawn.saying(draw, 4, 1)
            if len(slow.pieces(slowtrees.contrary(saying))) <= 60 >= len(slow.pieces(saying)):
                due = slowtrees.opened(slowtrees.contrary(saying), slowtrees.days_of(saying))
                self.assertEqual(opened(saying), due)

    def test_bounds_and_waiting_hold_with_the_contrary(self):
        draw = random.Random(113)
        for _ in range(200):
            saying, days, lists = drawn.saying(draw, 3, 1), drawn.days(draw), drawn.lists(draw)
            if len(slow.pieces(slowtrees.contrary(saying))) <= 60:
                bounds, waiting = opened(saying)
                listed = [slow.day_of(formula, days, lists) for formula in days_of(saying)]
                kept = all(listed[first] - listed[second] <= most for first, second, most in bounds)
                kept = kept and all(slow.holds(told, days, lists) for told in waiting)
                self.assertIs(kept, not slow.holds(saying, days, lists))


class Ways(unittest.TestCase):
    def test_pair(self):
        place, other = ("a", 1, 5, 2, 7), ("a", 3, -1, 4, 20)
        self.assertEqual(pair_ways(place, other), (
            [(1, 3, -7), (2, 4, 13)], [(1, 3, -6), (3, 1, 6), (2, 4, 13), (4, 2, -13)], [(3, 1, 5), (4, 2, -13)]))

    def test_cross(self):
        place, other = ("a", 1, 5, 2, 7), ("b", 3, -1, 4, 20)
        self.assertEqual(cross_ways(place, other), ([(1, 3, -6), (2, 4, 13)], [(3, 1, 5)]))

    def test_rules_are_not_looked_at(self):
        for rule in "abh":
            self.assertEqual(pair_ways((rule, 1, 0, 2, 0), ("b", 3, 0, 4, 0)),
                             pair_ways(("c", 1, 0, 2, 0), ("c", 3, 0, 4, 0)))
            self.assertEqual(cross_ways((rule, 1, 0, 2, 0), ("b", 3, 0, 4, 0)), ([(1, 3, 0), (2, 4, 0)], [(3, 1, -1)]))

    def test_a_place_and_itself(self):
        place = ("a", 0, 10 ** 12, 0, -10 ** 12)
        self.assertEqual(pair_ways(place, place), ([(0, 0, -1), (0, 0, 0)], [(0, 0, 0)] * 4, [(0, 0, -1), (0, 0, 0)]))

    def test_slow_reckoning_and_known_tables(self):
        """Of each pair and each cross, at known Tables, all bounds of one way at least hold."""
        checked = 0
        for draw, lists, log, promises in known_books.kept_books(114, 120, "abc"):
            days, saying = drawn.days(draw), drawn.saying(draw, 1, 2, rules="abc")
            if len(slow.pieces(saying)) > 60:
                continue
            listed = [slow.day_of(formula, days, lists) for formula in days_of(saying)]
            spots = places_of(saying, Book(log, promises))
            for place in spots:
                for other in spots:
                    pairs, crosses = pair_ways(place, other), cross_ways(place, other)
                    self.assertEqual(pairs, slowtrees.pair_ways(place, other))
                    self.assertEqual(crosses, tuple(slowtrees.cross_ways(place, other)))
                    if place[0] == other[0]:
                        self.assertTrue(self.one_holds(pairs, listed))
                    elif place[0] in slow.beneath(promises, other[0]):
                        checked += 1
                        self.assertTrue(self.one_holds(crosses, listed))
        self.assertGreater(checked, 100)

    def one_holds(self, ways, listed):
        return any(all(listed[first] - listed[second] <= most for first, second, most in way) for way in ways)


if __name__ == "__main__":
    unittest.main()
