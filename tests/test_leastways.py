"""Least days, and rings."""

import random
import unittest

from leadrules.errors import InvalidBounds
from leadrules.leastways import are_kept, is_ring, least_days, ring_of
from tests import slowtrees, wrong
from tests.wrong import check_refused, raised


def drawn_bounds(draw, many, most=8, spread=5):
    """Bounds of day numbers below many."""
    return [(draw.randrange(many), draw.randrange(many), draw.randint(-spread, spread + 2))
            for _ in range(draw.randint(0, most))]


class LeastDays(unittest.TestCase):
    def test_least_days(self):
        self.assertEqual(least_days(3, [(0, 1, -2), (1, 2, -3)]), [0, 2, 5])
        self.assertEqual(least_days(1, []), [0])
        self.assertEqual(least_days(4, []), [0, 0, 0, 0])
        self.assertEqual(least_days(1, [(0, 0, 0), (0, 0, 5)]), [0])

    def test_day_zero_with_others_below(self):
        # The least ones, none below 0, are [5, 0, 3]; day 0 comes to 0.
        self.assertEqual(least_days(3, [(1, 0, -5), (1, 2, -3)]), [0, -5, -2])
        self.assertEqual(least_days(3, [(1, 0, -5)]), [0, -5, -5])

    def test_each_day_alone_from_zero(self):
        # Day 2 hangs on nothing, so it is 0 ahead of all being moved by day 0.
        self.assertEqual(least_days(3, [(1, 0, -4), (0, 1, 4)]), [0, -4, -4])

    def test_none(self):
        for bounds in ([(0, 0, -1)], [(0, 1, -1), (1, 0, 0)], [(0, 1, 3), (1, 2, -3), (2, 0, -1)]):
            self.assertIsNone(least_days(3, bounds))
        self.assertEqual(least_days(3, [(0, 1, 3), (1, 2, -3), (2, 0, 0)]), [0, -3, 0])

    def test_slow_reckoning(self):
        draw = random.Random(120)
        found = {True: 0, False: 0}
        for _ in range(800):
            many = draw.randint(1, 5)
            bounds = drawn_bounds(draw, many)
            days, ring = least_days(many, bounds), ring_of(many, bounds)
            self.assertEqual(days, slowtrees.least_days(many, bounds))
            found[days is None] += 1
            if days is None:
                total = slowtrees.ring_sum(ring)
                self.assertTrue(total is not None and total < 0 and all(bound in bounds for bound in ring))
                self.assertIs(is_ring(bounds, ring), True)
            else:
                self.assertIsNone(ring)
                self.assertIs(are_kept(bounds, days), True)
        self.assertTrue(min(found.values()) > 150, found)

    def test_long_ways(self):
        many = 400
        bounds = [(number, number + 1, -10 ** 12) for number in range(many - 1)][::-1]
        self.assertEqual(least_days(many, bounds), [number * 10 ** 12 for number in range(many)])
        closed = bounds + [(many - 1, 0, (many - 1) * 10 ** 12 - 1)]
        self.assertIsNone(least_days(many, closed))
        self.assertEqual(sorted(ring_of(many, closed)), sorted(closed))


class Kept(unittest.TestCase):
    def test_are_kept(self):
        bounds = [(0, 1, -2), (1, 2, 5)]
        self.assertIs(are_kept(bounds, [0, 2, -3]), True)
        self.assertIs(are_kept(bounds, (7, 9, 4, 100)), True)
        self.assertIs(are_kept(bounds, [0, 1, 0]), False)
        self.assertIs(are_kept(bounds, [0, 9, 3]), False)
        self.assertIs(are_kept([], []), True)
        self.assertIs(are_kept([(0, 0, -1)], [5]), False)

    def test_too_few_days(self):
        self.assertIs(are_kept([(0, 1, 5), (2, 0, 5)], [0, 0]), False)
        self.assertIs(are_kept([(3, 0, 5)], [0, 0, 0]), False)
        self.assertIs(are_kept([(3, 0, 5)], [0, 0, 0, 0]), True)

    def test_no_integers(self):
        for value in ([0, True], [False, 0], [0, None], [0, "1"], [0, 1.0], [[0], 1], {0: 0, 1: 1}, "01", None, 3):
            self.assertIs(are_kept([(0, 1, 5)], value), False)
        for value in wrong.ANYTHING:
            self.assertIsInstance(are_kept([(0, 1, -5)], value), bool)


class Rings(unittest.TestCase):
    def test_is_ring(self):
        bounds = [(0, 1, -1), (1, 0, 0), (1, 2, 3), (2, 1, -4), (2, 2, -1)]
        for ring in ([(0, 1, -1), (1, 0, 0)], [(1, 0, 0), (0, 1, -1)], ((1, 2, 3), (2, 1, -4)), [(2, 2, -1)],
                     [(2, 2, -1)] * 3, [(0, 1, -1), (1, 2, 3), (2, 1, -4), (1, 0, 0)]):
            self.assertIs(is_ring(bounds, ring), True)
        for ring in ([], (), [(0, 1, -1)], [(0, 1, -1), (1, 2, 3)], [(1, 0, 0)], [(0, 1, -2), (1, 0, 0)], [(0, 0, -1)],
                     [(0, 1, -1), (1, 0, -1)], [(0, 1, -1), (2, 2, -1)], {(2, 2, -1): 1}, "ring", None):
            self.assertIs(is_ring(bounds, ring), False)

    def test_rings_open_at_one_spot(self):
        bounds = [(0, 1, -1), (1, 0, 0), (1, 2, 3), (2, 1, -4), (2, 2, -1)]
        for ring in ([(0, 1, -1), (1, 2, 3), (2, 1, -4)], [(1, 2, 3), (2, 1, -4), (1, 0, 0)],
                     [(0, 1, -1), (1, 0, 0), (2, 2, -1)], [(2, 2, -1), (0, 1, -1), (1, 0, 0)],
                     [(0, 1, -1), (0, 1, -1), (1, 0, 0)], [(1, 2, 3), (1, 0, 0), (2, 1, -4)]):
            self.assertIs(is_ring(bounds, ring), False)

    def test_sums_that_are_not_below_zero(self):
        bounds = [(0, 1, -1), (1, 0, 1), (0, 0, 0), (1, 1, -1)]
        for ring in ([(0, 1, -1), (1, 0, 1)], [(0, 0, 0)]):
            self.assertIs(is_ring(bounds, ring), False)
        self.assertIs(is_ring(bounds, [(0, 1, -1), (1, 1, -1), (1, 0, 1)]), True)

    def test_bools_and_lists_are_no_bounds(self):
        bounds = [(0, 1, -1), (1, 0, 0)]
        for ring in ([(False, 1, -1), (1, 0, 0)], [(0, True, -1), (1, 0, 0)], [(0, 1, -1), (1, 0, False)],
                     [[0, 1, -1], [1, 0, 0]], [(0, 1, -1.0), (1, 0, 0)], [(0, 1, -1, 0), (1, 0, 0)]):
            self.assertIs(is_ring(bounds, ring), False)
        for value in wrong.ANYTHING:
            self.assertIs(is_ring(bounds, value), False)


class Refused(unittest.TestCase):
    def test_day_numbers_below_many(self):
        for call in (least_days, ring_of):
            for bounds in ([(0, 2, 0)], [(2, 0, 0)], [(0, 1, 0), (1, 5, 0)]):
                check_refused(self, InvalidBounds, bounds, lambda: call(2, bounds))
            self.assertIsNone(raised(lambda: call(3, [(0, 2, 0), (2, 0, 0)])))

    def test_many_first(self):
        for call in (least_days, ring_of):
            for many in wrong.NOT_LENGTHS:
                self.assertEqual(raised(lambda: call(many, None)).__class__.__name__, "InvalidCount")


if __name__ == "__main__":
    unittest.main()
