"""Plans compared beside a book: never later, left out, deciding, spare days."""

import random
import unittest

from leadrules.beside import decides, deciding, later_saying, left_saying, most_later, never_later, spare_days
from leadrules.books import Book
from leadrules.errors import InvalidCount, InvalidPart, InvalidPlan, MissingPart, RingOfParts, SamePart
from leadrules.plans import plan_formula, taken_in, with_delay
from leadrules.slack import least_slack
from leadrules.verdicts import broken, verdict
from tests import drawn, known_books, slow, slowplans, wrong
from tests.test_laid import slow_holds
from tests.test_plans import HOUSE, RING, chain, doubled
from tests.test_slack import BROKEN, check_broken
from tests.wrong import STEP, check_missing, check_refused, check_too_many

EMPTY = Book([], [])
LEADS = Book([], [("lead", "a", 0, 2), ("lead", "b", 0, 1)])
# Its parts o to r: r needs p and q, both of which need o.
DIAMOND = {"o": ("a", 0, []), "p": ("b", 1, ["o"]), "q": ("c", 0, ["o"]), "r": ("a", 0, ["p", "q"])}


def grown(many):
    """A plan whose part z has a formula of so many pieces, at least 17."""
    plan, last, have = doubled(4), "d", 15
    for name in "efghijk":
        if have + 2 <= many - 1:
            plan[name] = ("b", 1, [last])
            last, have = name, have + 2
    return {**plan, "z": ("a", many - have - 1, [last])}


def small(plan, other, most=40):
    """Whether the formulas of all parts of two plans, and of a part left out, make sayings of few pieces."""
    return all(len(slow.pieces(slowplans.formula(told, part))) <= most // 2 for told in (plan, other) for part in told)


def cases(seed, many, most=4, promises=4):
    """So many (draw, lists, log, promises, plan, other plan), of few pieces."""
    found = 0
    for draw, lists, log, kept in known_books.kept_books(seed, 20 * many, "ab", 1, promises):
        plan, other = slowplans.drawn_plan(draw, most, "ab", "mno", 2), slowplans.drawn_plan(draw, most, "ab", "xyz", 2)
        if small(plan, other) and found < many:
            found += 1
            yield draw, lists, log, kept, plan, other


class Later(unittest.TestCase):
    def test_saying(self):
        self.assertEqual(later_saying(HOUSE, "glass", HOUSE, "frame"),
                         ("le", plan_formula(HOUSE, "glass"), plan_formula(HOUSE, "frame")))
        other = {"roof": ("c", 1, [])}
        self.assertEqual(later_saying(HOUSE, "window", other, "roof"),
                         ("le", plan_formula(HOUSE, "window"), ("add", 1, ("on", "c", ("day", "s")))))

    def test_never_later(self):
        leads = Book([], [("lead", "a", 0, None)])
        self.assertIs(never_later(HOUSE, "frame", HOUSE, "window", EMPTY), False)
        self.assertIs(never_later(HOUSE, "frame", HOUSE, "window", leads), True)
        self.assertIs(never_later(HOUSE, "window", HOUSE, "frame", leads), False)
        self.assertIs(never_later(HOUSE, "window", HOUSE, "window", EMPTY), True)
        self.assertIs(never_later(HOUSE, "glass", HOUSE, "frame", Book([], [("quick", "b", "a")])), True)
        self.assertIs(never_later(HOUSE, "window", HOUSE, "glass", BROKEN), True)

    def test_most_later(self):
        self.assertEqual(most_later(HOUSE, "frame", HOUSE, "glass", LEADS), 4)
        self.assertEqual(most_later(HOUSE, "glass", HOUSE, "frame", LEADS), -1)
        self.assertIsNone(most_later(HOUSE, "frame", HOUSE, "glass", EMPTY))
        self.assertEqual(most_later(HOUSE, "glass", HOUSE, "glass", EMPTY), 0)

    def test_drawn_tables(self):
        found = {True: 0, False: 0}
        for draw, lists, log, promises, plan, other in cases(410, 150):
            book = Book(log, promises)
            first, second = draw.choice(list(plan)), draw.choice(list(other))
            saying = ("le", slowplans.formula(plan, first), slowplans.formula(other, second))
            self.assertEqual(later_saying(plan, first, other, second), saying)
            never = never_later(plan, first, other, second, book)
            found[never] += 1
            self.assertIs(never, verdict(saying, book) == "all")
            most = most_later(plan, first, other, second, book)
            self.assertEqual(most, least_slack(saying[1], saying[2], book))
            self.assertIs(never, most is not None and most <= 0)
            for start in range(-6, 7):
                gap = slowplans.ready(plan, first, start, lists) - slowplans.ready(other, second, start, lists)
                self.assertTrue(most is None or gap <= most)
            if not never:
                picture = broken(saying, book)
                self.assertFalse(slow_holds(saying, *picture, log, promises))
        self.assertTrue(min(found.values()) > 15, found)

    def test_refused(self):
        calls = (later_saying, lambda *told: never_later(*told, BROKEN), lambda *told: most_later(*told, BROKEN))
        for call in calls:
            for value in wrong.NOT_PLANS:
                check_refused(self, InvalidPlan, value, lambda: call(value, None, None, None))
                check_refused(self, InvalidPlan, value, lambda: call(HOUSE, "roof", value, None))
            check_missing(self, RingOfParts, "part", "p", lambda: call(RING, None, None, None))
            check_missing(self, RingOfParts, "part", "p", lambda: call(HOUSE, "roof", RING, None))
            for value in wrong.NOT_PARTS:
                check_refused(self, InvalidPart, value, lambda: call(HOUSE, value, None, None))
                check_refused(self, InvalidPart, value, lambda: call(HOUSE, "roof", DIAMOND, value))
            check_missing(self, MissingPart, "part", "roof", lambda: call(HOUSE, "roof", DIAMOND, "wall"))
            check_missing(self, MissingPart, "part", "wall", lambda: call(HOUSE, "frame", DIAMOND, "wall"))
            check_missing(self, MissingPart, "part", "frame", lambda: call(HOUSE, "frame", DIAMOND, "frame"))
        check_broken(self, lambda: most_later(doubled(6), "f", doubled(6), "f", BROKEN))
        for call in (later_saying, lambda *told: never_later(*told, BROKEN), lambda *told: most_later(*told, EMPTY)):
            check_too_many(self, "pieces", 60, lambda: call(doubled(12), "f", HOUSE, "glass"))
            check_too_many(self, "pieces", 60, lambda: call(doubled(12), "e", doubled(5), "e"))
        # le makes a piece more, add of the slack another one.
        for many, call, due in ((28, later_saying, True), (29, later_saying, False), (27, most_later, True),
                                (28, most_later, False), (28, never_later, True), (29, never_later, False)):
            told = (doubled(5), "e", grown(many), "z") + (() if call is later_saying else (LEADS,))
            if due:
                self.assertIsNotNone(call(*told))
            else:
                check_too_many(self, "pieces", 60, lambda: call(*told))


class LeftOut(unittest.TestCase):
    def test_saying(self):
        first, second = plan_formula(DIAMOND, "r"), plan_formula(DIAMOND, "r")
        self.assertEqual(left_saying(HOUSE, "window", "glass"), (
            "and", ("le", plan_formula(HOUSE, "window"), self.without_glass()),
            ("le", self.without_glass(), plan_formula(HOUSE, "window"))))
        # A part that is not taken in changes nothing.
        self.assertEqual(left_saying({**DIAMOND, "z": STEP}, "r", "z"), ("and", ("le", first, second), ("le", second, first)))

    def without_glass(self):
        return plan_formula({"frame": HOUSE["frame"], "window": ("a", 1, ["frame"])}, "window")

    def test_decides(self):
        self.assertIs(decides(HOUSE, "window", "glass", EMPTY), True)
        # Where b is quicker than a, the glass never comes last.
        self.assertIs(decides(HOUSE, "window", "glass", Book([], [("quick", "b", "a")])), False)
        self.assertIs(decides(HOUSE, "window", "glass", LEADS), False)
        self.assertIs(decides(HOUSE, "window", "frame", LEADS), True)
        self.assertIs(decides(HOUSE, "glass", "window", EMPTY), False)
        self.assertIs(decides(DIAMOND, "r", "o", EMPTY), True)
        self.assertIs(decides(DIAMOND, "r", "o", BROKEN), False)

    def test_deciding(self):
        self.assertEqual(deciding(HOUSE, "window", EMPTY), ["frame", "glass"])
        self.assertEqual(deciding(HOUSE, "window", LEADS), ["frame"])
        self.assertEqual(deciding(HOUSE, "glass", EMPTY), [])
        self.assertEqual(deciding(DIAMOND, "r", EMPTY), ["o", "p", "q"])
        self.assertEqual(deciding(DIAMOND, "r", BROKEN), [])
        self.assertEqual(deciding({"p": STEP}, "p", EMPTY), [])
        # A rule that serves on the day asked decides nothing.
        plain = Book([], [("lead", "a", 0, 0)])
        self.assertEqual(deciding(DIAMOND, "r", plain), ["p", "q"])

    def test_drawn_tables(self):
        found = {True: 0, False: 0}
        for draw, lists, log, promises, plan, _ in cases(411, 150):
            book, part = Book(log, promises), draw.choice(list(plan))
            others = []
            for other in plan:
                if other == part:
                    continue
                told = slowplans.formula(plan, part), slowplans.formula(slowplans.without(plan, other), part)
                saying = ("and", ("le", *told), ("le", *told[::-1]))
                self.assertEqual(left_saying(plan, part, other), saying)
                found[decides(plan, part, other, book)] += 1
                self.assertIs(decides(plan, part, other, book), broken(saying, book) is not None)
                if decides(plan, part, other, book):
                    others.append(other)
                    self.assertIn(other, taken_in(plan, part))
                else:
                    for start in range(-6, 7):
                        self.assertEqual(slowplans.ready(plan, part, start, lists),
                                         slowplans.ready(slowplans.without(plan, other), part, start, lists))
            self.assertEqual(deciding(plan, part, book), sorted(others))
        self.assertTrue(min(found.values()) > 30, found)

    def test_refused(self):
        for call in (left_saying, lambda *told: decides(*told, BROKEN), lambda *told: spare_days(*told, 3, BROKEN)):
            for value in wrong.NOT_PLANS:
                check_refused(self, InvalidPlan, value, lambda: call(value, None, None))
            for value in wrong.NOT_PARTS:
                check_refused(self, InvalidPart, value, lambda: call(HOUSE, value, None))
                check_refused(self, InvalidPart, value, lambda: call(HOUSE, "roof", value))
            check_missing(self, MissingPart, "part", "roof", lambda: call(HOUSE, "roof", "wall"))
            check_missing(self, MissingPart, "part", "roof", lambda: call(HOUSE, "roof", "roof"))
            check_missing(self, MissingPart, "part", "wall", lambda: call(HOUSE, "glass", "wall"))
            check_missing(self, SamePart, "part", "glass", lambda: call(HOUSE, "glass", "glass"))
            check_missing(self, SamePart, "part", "l", lambda: call(doubled(12), "l", "l"))
            check_too_many(self, "pieces", 60, lambda: call(doubled(12), "f", "a"))
        check_too_many(self, "pieces", 60, lambda: left_saying(doubled(5), "e", "a"))
        for value in wrong.NOT_PARTS:
            check_refused(self, InvalidPart, value, lambda: deciding(HOUSE, value, BROKEN))
        check_missing(self, MissingPart, "part", "roof", lambda: deciding(HOUSE, "roof", BROKEN))
        check_missing(self, RingOfParts, "part", "p", lambda: deciding(RING, None, BROKEN))
        check_too_many(self, "pieces", 60, lambda: deciding(doubled(12), "f", BROKEN))


class Spare(unittest.TestCase):
    def test_spare_days(self):
        # The frame is ready two days behind the start at least, the glass one day behind it at most.
        self.assertEqual([spare_days(HOUSE, "window", "glass", most, LEADS) for most in (0, 1, 2, 9)], [0, 1, 1, 1])
        self.assertEqual(spare_days(HOUSE, "window", "frame", 9, LEADS), 0)
        self.assertEqual(spare_days(HOUSE, "window", "glass", 9, EMPTY), 0)
        self.assertEqual(spare_days(HOUSE, "frame", "glass", 10 ** 12, EMPTY), 10 ** 12)
        self.assertEqual(spare_days(HOUSE, "window", "glass", 77, BROKEN), 77)

    def test_most_reached(self):
        far = {"o": ("a", 0, []), "p": ("a", 1000, []), "q": ("a", 0, ["o", "p"])}
        even = Book([], [("lead", "a", 0, 0)])
        for most in (1, 2, 3, 7, 8, 998, 999, 1000):
            self.assertEqual(spare_days(far, "q", "o", most, even), most)
        for most in (1001, 1002, 2000, 10 ** 9):
            self.assertEqual(spare_days(far, "q", "o", most, even), 1000)

    def test_no_saying_is_made(self):
        self.assertEqual(spare_days(doubled(12), "l", "a", 0, BROKEN), 0)
        check_too_many(self, "pieces", 60, lambda: spare_days(doubled(12), "l", "a", 1, BROKEN))
        check_too_many(self, "pieces", 60, lambda: spare_days(doubled(5), "e", "a", 1, EMPTY))

    def test_drawn_tables(self):
        found = {}
        for draw, lists, log, promises, plan, _ in cases(412, 200, promises=6):
            book, part = Book(log, promises), draw.choice(list(plan))
            for other in sorted(plan):
                most = draw.randint(0, 4)
                if other == part:
                    continue
                spare = spare_days(plan, part, other, most, book)
                found[spare] = found.get(spare, 0) + 1
                told = slowplans.formula(plan, part)
                trials = [verdict(("le", slowplans.formula(slowplans.delayed(plan, other, many), part), told), book)
                          for many in range(1, most + 1)]
                self.assertEqual(spare, (trials + ["breaks"]).index("breaks"))
                for start in range(-5, 6):
                    self.assertEqual(slowplans.ready(with_delay(plan, other, spare), part, start, lists),
                                     slowplans.ready(plan, part, start, lists))
        self.assertTrue(all(found.get(many, 0) > 5 for many in range(5)), found)

    def test_refused(self):
        for value in wrong.NOT_COUNTS:
            check_refused(self, InvalidCount, value, lambda: spare_days(HOUSE, "roof", "roof", value, BROKEN))
        check_missing(self, SamePart, "part", "glass", lambda: spare_days(HOUSE, "glass", "glass", 0, EMPTY))

    def test_long_chains(self):
        self.assertIs(decides(chain(12), "l", "a", EMPTY), True)
        self.assertEqual(spare_days(chain(12), "l", "a", 3, EMPTY), 0)


if __name__ == "__main__":
    unittest.main()
