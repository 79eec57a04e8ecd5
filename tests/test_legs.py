"""Legs, their sums, and days that keep bounds and have rests."""

import random
import unittest

from leadrules.errors import InvalidBounds, InvalidCount, InvalidLength, InvalidRests
from leadrules.leastways import least_days
from leadrules.legs import are_rested_days, is_legs, leg_sum, legs_of, rested_days
from tests import slowknown, wrong
from tests.test_leastways import drawn_bounds
from tests.wrong import check_refused


def drawn_rests(draw, many, length, most=3):
    """Rests of some day numbers, day 0 among them."""
    others = draw.sample(range(1, many), min(many - 1, draw.randint(0, most)))
    return {0: 0, **{number: draw.randrange(length) for number in others}}


def kept_bounds(draw, many, most):
    """Bounds that some days keep, with little room: whether days with rests do hangs on the rests."""
    days = [draw.randint(-9, 9) for _ in range(many)]
    ends = [(draw.randrange(many), draw.randrange(many)) for _ in range(draw.randint(0, most))]
    return [(first, second, days[first] - days[second] + draw.randint(0, 3)) for first, second in ends]


class LegSum(unittest.TestCase):
    def test_brought_down(self):
        self.assertEqual(leg_sum([(1, 0, 6)], 7, {0: 0, 1: 5}), 5)
        self.assertEqual(leg_sum([(0, 1, -6)], 7, {0: 0, 1: 5}), -12)
        self.assertEqual(leg_sum([(0, 1, 9)], 7, {0: 0, 1: 5}), 9)
        self.assertEqual(leg_sum([(0, 1, 8)], 7, {0: 0, 1: 5}), 2)
        self.assertEqual(leg_sum([(0, 1, -5)], 7, {0: 0, 1: 5}), -5)
        self.assertEqual(leg_sum([(0, 2, 3), (2, 1, 4)], 5, {0: 0, 1: 1, 2: 0}), 4)

    def test_ends_without_rests(self):
        for rests in ({0: 0}, {0: 0, 1: 3}, {0: 0, 2: 3}, {0: 0, 3: 1}):
            self.assertEqual(leg_sum([(1, 3, 4), (3, 2, -6)], 7, rests), -2)
        self.assertEqual(leg_sum([(1, 3, 4), (3, 2, -6)], 7, {0: 0, 1: 3, 2: 3}), -7)

    def test_a_ring_is_one_leg(self):
        self.assertEqual(leg_sum([(1, 2, 4), (2, 1, -5)], 7, {0: 0}), -1)
        self.assertEqual(leg_sum([(1, 2, 4), (2, 1, -5)], 7, {0: 0, 1: 5}), -7)
        self.assertEqual(leg_sum([(1, 2, 4), (2, 1, -4)], 7, {0: 0, 1: 5}), 0)
        self.assertEqual(leg_sum([(0, 0, 13)], 7, {0: 0}), 7)

    def test_length_one(self):
        for total in range(-4, 5):
            self.assertEqual(leg_sum([(0, 1, total)], 1, {0: 0, 1: 0}), total)

    def test_slow_reckoning(self):
        draw = random.Random(300)
        for _ in range(600):
            length = draw.randint(1, 14)
            leg, day = [], draw.randrange(4)
            for _ in range(draw.randint(1, 4)):
                leg.append((day, draw.randrange(4), draw.randint(-20, 20)))
                day = leg[-1][1]
            rests = drawn_rests(draw, 4, length)
            self.assertEqual(leg_sum(leg, length, rests), slowknown.leg_sum(leg, length, rests))

    def test_far_day_numbers_have_rests(self):
        """No many is told, so any day number may have a rest."""
        self.assertEqual(leg_sum([(900, 901, 6)], 7, {0: 0, 900: 5, 901: 0}), 5)

    def test_refused(self):
        for value in wrong.NOT_LEG_LISTS:
            check_refused(self, InvalidBounds, value, lambda: leg_sum(value, None, None))
        for value in wrong.NOT_REST_LENGTHS:
            check_refused(self, InvalidLength, value, lambda: leg_sum([(0, 1, 0)], value, None))
        for value in wrong.NOT_RESTS:
            check_refused(self, InvalidRests, value, lambda: leg_sum([(0, 1, 0)], 7, value))
        check_refused(self, InvalidRests, rests := {0: 0, 1: 3}, lambda: leg_sum([(0, 1, 0)], 3, rests))
        self.assertEqual(leg_sum([(0, 1, 0)], 4, rests), -3)


class Legs(unittest.TestCase):
    def test_several_legs(self):
        bounds, rests = [(1, 0, 6), (0, 1, -6)], {0: 0, 1: 5}
        for legs in ([[bounds[0]], [bounds[1]]], [[bounds[1]], [bounds[0]]]):
            self.assertIs(is_legs(2, bounds, 7, rests, legs), True)
            self.assertIs(is_legs(2, bounds, 7, rests, tuple(map(tuple, legs))), True)
        # In one leg the sum is 0, and nothing brings it down.
        self.assertIs(is_legs(2, bounds, 7, rests, [bounds]), False)
        self.assertIs(is_legs(2, bounds, 7, {0: 0}, [[bounds[0]], [bounds[1]]]), False)
        self.assertIs(is_legs(2, bounds, 7, {0: 0, 1: 6}, [[bounds[0]], [bounds[1]]]), False)
        self.assertIs(is_legs(2, bounds[:1], 7, rests, [[bounds[0]], [bounds[1]]]), False)

    def test_sums_are_added_up(self):
        """The one leg's sum is above 0, the other one's below it."""
        bounds, rests = [(1, 0, 12), (0, 1, -6)], {0: 0, 1: 5}
        self.assertEqual([leg_sum([bound], 7, rests) for bound in bounds], [12, -12])
        self.assertIsNone(legs_of(2, bounds, 7, rests))
        self.assertIs(is_legs(2, [(1, 0, 11), (0, 1, -6)], 7, rests, [[(1, 0, 11)], [(0, 1, -6)]]), True)
        self.assertIs(is_legs(2, bounds, 7, rests, [[(1, 0, 12)], [(0, 1, -6)]]), False)

    def test_one_leg(self):
        ring = [(1, 2, 3), (2, 1, -4)]
        for rests in ({0: 0}, {0: 0, 1: 3}, {0: 0, 2: 4}):
            self.assertIs(is_legs(3, ring, 7, rests, [ring]), True)
            self.assertIs(is_legs(3, ring, 7, rests, legs_of(3, ring, 7, rests)), True)
        self.assertIs(is_legs(3, ring, 7, {0: 0, 1: 3}, [ring[:1], ring[1:]]), False)
        self.assertIs(is_legs(3, ring, 7, {0: 0}, [ring[:1]]), False)
        self.assertIs(is_legs(1, [(0, 0, -1)], 1, {0: 0}, [[(0, 0, -1)]]), True)
        self.assertIs(is_legs(1, [(0, 0, 0)], 1, {0: 0}, [[(0, 0, 0)]]), False)

    def test_a_day_between_has_no_rest(self):
        bounds = [(1, 2, 2), (2, 0, 4), (0, 1, -6)]
        rests = {0: 0, 1: 5}
        self.assertIs(is_legs(3, bounds, 7, rests, [bounds[:2], bounds[2:]]), True)
        self.assertIs(is_legs(3, bounds, 7, rests, [bounds[:1], bounds[1:2], bounds[2:]]), False)
        self.assertIs(is_legs(3, bounds, 7, rests, [bounds[1:2] + bounds[2:], bounds[:1]]), False)
        self.assertTrue(is_legs(3, bounds, 7, rests, legs_of(3, bounds, 7, rests)))

    def test_no_legs(self):
        for value in wrong.ANYTHING + [[], [[]], [[(0, 1, -6)]], [[(0, 1, -6)], []], [[(0, 1, -6), (0, 1, -6)]],
                                       [(0, 1, -6), (1, 0, 6)], [[[0, 1, -6]], [[1, 0, 6]]], [[(1, 0, 6)], [(0, True, -6)]]]:
            self.assertIs(is_legs(2, [(1, 0, 6), (0, 1, -6)], 7, {0: 0, 1: 5}, value), False)

    def test_all_bounds_tried(self):
        """Just one of legs and rested days is there; both judged by own judges, and told by own ways."""
        draw = random.Random(301)
        found = {(kind, many): 0 for kind in ("legs", "days") for many in (1, 2)}
        for _ in range(4000):
            many, length = draw.randint(1, 4), draw.choice((1, 2, 7, 14, 14))
            bounds = kept_bounds(draw, many, 6) if draw.random() < 0.6 else drawn_bounds(draw, many, 6, 6)
            rests = drawn_rests(draw, many, length, draw.randint(0, 3))
            legs, days = legs_of(many, bounds, length, rests), rested_days(many, bounds, length, rests)
            self.assertIsNot(legs is None, days is None)
            self.assertIs(legs is not None, slowknown.has_legs(bounds, length, rests), (bounds, length, rests))
            self.assertIs(days is None, slowknown.rested_days(many, bounds, length, rests) is None)
            if days is None:
                self.assertTrue(slowknown.right_legs(legs, bounds, length, rests))
                self.assertIs(is_legs(many, bounds, length, rests, legs), True)
                found["legs", min(len(legs), 2)] += 1
            else:
                self.assertTrue(self.are_right(many, bounds, length, rests, days))
                self.assertIs(are_rested_days(many, bounds, length, rests, days), True)
                found["days", min(len(rests), 2)] += 1
        self.assertTrue(min(found.values()) > 60, found)

    def are_right(self, many, bounds, length, rests, days):
        return (len(days) == many and days[0] == 0 and all(days[first] - days[second] <= most for first, second, most in bounds)
                and all((days[number] - rest) % length == 0 for number, rest in rests.items()))

    def test_bent_legs(self):
        """Told legs with a bound or a leg left out, twice or moved, beside an own judge."""
        draw = random.Random(302)
        right = 0
        for _ in range(400):
            many, length = draw.randint(2, 4), draw.choice((2, 3, 7))
            bounds, rests = drawn_bounds(draw, many, 7, 6), drawn_rests(draw, many, length)
            legs = legs_of(many, bounds, length, rests)
            if legs is None:
                continue
            for bent in (legs[1:], legs[:-1], legs + legs, legs[::-1], [leg[1:] for leg in legs], [sum(legs, [])],
                         [[bound] for leg in legs for bound in leg], legs[1:] + legs[:1], [leg + leg for leg in legs]):
                due = slowknown.right_legs(bent, bounds, length, rests)
                right += due
                self.assertIs(is_legs(many, bounds, length, rests, bent), due)
        self.assertGreater(right, 300)

    def test_without_rests_as_rings(self):
        """Where day 0 alone has a rest, and where the length is 1, days are there just if least days are."""
        draw = random.Random(303)
        for _ in range(300):
            many = draw.randint(1, 5)
            bounds = drawn_bounds(draw, many)
            due = least_days(many, bounds) is None
            self.assertIs(legs_of(many, bounds, 7, {0: 0}) is not None, due)
            self.assertIs(legs_of(many, bounds, 1, dict.fromkeys(range(many), 0)) is not None, due)

    def test_many_days(self):
        """A long way of bounds, each of which is brought down, and one back that its sums do not admit."""
        many = 60
        onward = [(number, number + 1, -3) for number in range(many - 1)]
        rests = {number: 0 for number in range(many)}
        for back, due in ((7 * (many - 1), False), (7 * (many - 1) - 1, True)):
            bounds = onward + [(many - 1, 0, back)]
            self.assertIs(legs_of(many, bounds, 7, rests) is not None, due)
            days = rested_days(many, bounds, 7, rests)
            self.assertEqual(days, None if due else [7 * number for number in range(many)])

    def test_day_numbers_without_bounds(self):
        self.assertEqual(rested_days(4, [], 7, {0: 0, 2: 5}), [0, 0, rested_days(3, [], 7, {2: 5, 0: 0})[2], 0])
        self.assertIs(are_rested_days(4, [], 7, {0: 0, 2: 5}, [0, 9, -2, -9]), True)


class RestedDays(unittest.TestCase):
    BOUNDS, RESTS = [(1, 0, 9), (0, 1, -2)], {0: 0, 1: 5}

    def judged(self, value, many=2):
        return are_rested_days(many, self.BOUNDS, 7, self.RESTS, value)

    def test_judged(self):
        self.assertEqual([day for day in range(-30, 30) if self.judged([0, day])], [5])
        self.assertIs(self.judged((0, 5)), True)
        for value in ([0, 5, 0], [0], [7, 12], [-7, -2], [0, 12], [0, -2], [0, 4], [False, 5], [0, 5.0], [0, None], {0: 0, 1: 5}):
            self.assertIs(self.judged(value), False)
        self.assertEqual([day for day in range(-9, 9) if self.judged([0, 5, day], 3)], list(range(-9, 9)))
        for value in wrong.ANYTHING:
            self.assertIs(self.judged(value), False)

    def test_told(self):
        self.assertEqual(rested_days(2, self.BOUNDS, 7, self.RESTS), [0, 5])
        self.assertEqual(rested_days(2, self.BOUNDS, 7, {0: 0, 1: 1}), [0, 8])
        self.assertIsNone(rested_days(2, [(1, 0, 5), (0, 1, -2)], 7, {0: 0, 1: 6}))
        self.assertEqual(rested_days(1, [], 1, {0: 0}), [0])

    def test_far_days(self):
        far = 14 * 10 ** 10
        for rest in range(14):
            due = [0, rest - far] if rest < 9 else None
            self.assertEqual(rested_days(2, [(1, 0, 8 - far), (0, 1, far)], 14, {0: 0, 1: rest}), due)

    def test_refused(self):
        for call in (legs_of, rested_days, lambda *told: is_legs(*told, None), lambda *told: are_rested_days(*told, None)):
            for value in wrong.NOT_LENGTHS:
                check_refused(self, InvalidCount, value, lambda: call(value, None, None, None))
            for value in wrong.NOT_BOUNDS + [[(0, 2, 1)], [(2, 0, 1)]]:
                check_refused(self, InvalidBounds, value, lambda: call(2, value, None, None))
            for value in wrong.NOT_REST_LENGTHS:
                check_refused(self, InvalidLength, value, lambda: call(2, [], value, None))
            for value in wrong.NOT_RESTS + [{0: 0, 2: 1}, {0: 0, 1: 1, 9: 0}]:
                check_refused(self, InvalidRests, value, lambda: call(2, [], 7, value))


if __name__ == "__main__":
    unittest.main()
