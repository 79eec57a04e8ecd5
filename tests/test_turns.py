"""Last and first starts, due days and room, sure and open starts, and the days between which a part is ready."""

import random
import unittest

from leadrules.answers import greatest_answer, last_hope, last_sure, least_answer
from leadrules.books import Book
from leadrules.errors import (InvalidDay, InvalidName, InvalidPart, InvalidPlan, InvalidWorld, MissingPart, MissingRule,
                              RingOfParts)
from leadrules.plans import plan_formula
from leadrules.tables import Table
from leadrules.turning import turned_down, turned_up
from leadrules.turns import (dues, first_start, first_start_in, last_start, last_start_in, open_start, ready_between, room,
                             sure_start)
from leadrules.verdicts import verdict
from tests import drawn, known_books, slow, slowplans, wrong
from tests.test_beside import DIAMOND, LEADS
from tests.test_plans import HOUSE, RING, WORLD, doubled
from tests.test_slack import BROKEN, check_broken
from tests.wrong import check_missing, check_refused, check_too_many

EMPTY = Book([], [])


class Formulas(unittest.TestCase):
    def test_turned(self):
        self.assertEqual(last_start({"glass": ("b", 3, [])}, "glass", "y"), ("til", "b", ("add", -3, ("day", "y"))))
        self.assertEqual(first_start({"glass": ("b", 3, [])}, "glass", "s"), ("by", "b", ("add", -3, ("day", "s"))))
        self.assertEqual(last_start(HOUSE, "window", "p"), turned_down(plan_formula(HOUSE, "window"), "p"))
        self.assertEqual(first_start(HOUSE, "window", "p"), turned_up(plan_formula(HOUSE, "window"), "p"))

    def test_for_all_rules(self):
        """t is at most y exactly if the start is at most the last start, for all rules."""
        s, y = ("day", "s"), ("day", "y")
        for part in HOUSE:
            told = plan_formula(HOUSE, part)
            for first, second in ((("le", told, y), ("le", s, last_start(HOUSE, part, "y"))),
                                  (("le", y, told), ("le", first_start(HOUSE, part, "y"), s))):
                saying = ("or", ("and", first, second), ("and", ("not", first), ("not", second)))
                self.assertEqual(verdict(saying, EMPTY), "all")

    def test_refused(self):
        for call in (last_start, first_start):
            for value in wrong.NOT_NAMES:
                check_refused(self, InvalidName, value, lambda: call(HOUSE, "roof", value))
            check_missing(self, MissingPart, "part", "roof", lambda: call(HOUSE, "roof", "y"))
            check_too_many(self, "pieces", 60, lambda: call(doubled(12), "f", "y"))
            self.assertEqual(call(doubled(12), "a", "y")[1], "a")


class InAWorld(unittest.TestCase):
    def test_starts(self):
        self.assertEqual(last_start_in(HOUSE, "glass", 8, WORLD), 4)
        self.assertEqual(first_start_in(HOUSE, "glass", 8, WORLD), 5)
        self.assertEqual(last_start_in({"p": ("a", 2, [])}, "p", 8, WORLD), 0)
        self.assertEqual(first_start_in({"p": ("a", 2, [])}, "p", 8, WORLD), 1)

    def test_dues_and_room(self):
        self.assertEqual(dues(HOUSE, "window", 15, WORLD), {"frame": 14, "glass": 14, "window": 15})
        self.assertEqual(room(HOUSE, "window", 3, 15, WORLD), {"frame": 5, "glass": 8, "window": 0})
        self.assertEqual(room(HOUSE, "window", 3, 14, WORLD)["window"], -1)
        self.assertEqual(dues(HOUSE, "glass", 15, WORLD), {"glass": 15})

    def test_a_part_that_several_need(self):
        """It is due on the earliest of the days that these tell."""
        world = {"a": Table([0]), "b": Table([5]), "c": Table([2])}
        self.assertEqual(dues(DIAMOND, "r", 20, world), {"o": 14, "p": 20, "q": 20, "r": 20})
        self.assertEqual(last_start_in(DIAMOND, "r", 20, world), 14)
        self.assertEqual(room(DIAMOND, "r", 10, 20, world), {"o": 4, "p": 4, "q": 8, "r": 4})

    def test_slow_reckoning(self):
        """By going back one day after another, and beside the formulas."""
        draw = random.Random(420)
        shared = 0
        for _ in range(400):
            plan, lists = slowplans.drawn_plan(draw, 6), drawn.lists(draw, "ab")
            world, day, start = drawn.world(lists), draw.randint(-9, 9), draw.randint(-9, 9)
            for part in plan:
                last, first = last_start_in(plan, part, day, world), first_start_in(plan, part, day, world)
                self.assertEqual(last, slowplans.last_start(plan, part, day, lists))
                self.assertEqual(first, slowplans.first_start(plan, part, day, lists))
                due = slowplans.dues(plan, part, day, lists)
                found = dues(plan, part, day, world)
                self.assertEqual(found, due)
                self.assertEqual(list(found), sorted(found))
                self.assertEqual(room(plan, part, start, day, world),
                                 {told: due[told] - slowplans.ready(plan, told, start, lists) for told in due})
                shared += any(sum(told in plan[other][2] for other in due) > 1 for told in due)
                formula = slowplans.formula(plan, part)
                if len(slow.pieces(formula)) <= 30:
                    for call, found in ((last_start, last), (first_start, first)):
                        self.assertEqual(slow.day_of(call(plan, part, "y"), {"y": day}, lists), found)
        self.assertGreater(shared, 50)

    def test_no_limit_of_pieces(self):
        world = {"a": Table([1])}
        self.assertEqual(last_start_in(doubled(12), "l", 5, world), -7)
        self.assertEqual(first_start_in(doubled(12), "l", 5, world), -7)
        self.assertEqual(dues(doubled(12), "l", 5, world)["a"], -6)
        self.assertEqual(room(doubled(12), "l", 0, 5, world)["l"], -7)

    def test_refused(self):
        calls = (last_start_in, first_start_in, dues, lambda plan, part, *told: room(plan, part, 0, *told))
        for call in calls:
            for value in wrong.NOT_PLANS:
                check_refused(self, InvalidPlan, value, lambda: call(value, None, None, None))
            check_missing(self, RingOfParts, "part", "p", lambda: call(RING, None, None, None))
            for value in wrong.NOT_PARTS:
                check_refused(self, InvalidPart, value, lambda: call(HOUSE, value, None, None))
            for value in wrong.NOT_DAYS:
                check_refused(self, InvalidDay, value, lambda: call(HOUSE, "roof", value, None))
            for value in wrong.NOT_WORLDS:
                check_refused(self, InvalidWorld, value, lambda: call(HOUSE, "roof", 3, value))
            check_missing(self, MissingPart, "part", "roof", lambda: call(HOUSE, "roof", 3, {}))
            check_missing(self, MissingRule, "rule", "a", lambda: call(HOUSE, "window", 3, {}))
            check_missing(self, MissingRule, "rule", "b", lambda: call(HOUSE, "glass", 3, {"a": WORLD["a"]}))
            call(HOUSE, "glass", 3, {"b": WORLD["b"]})
        for value in wrong.NOT_DAYS:
            check_refused(self, InvalidDay, value, lambda: room(HOUSE, "roof", value, None, None))


class BesideABook(unittest.TestCase):
    def test_starts(self):
        # The window takes from 3 to 7 days: two askings of a, of 0 to 2 days each, and 2 and 1 days more.
        self.assertEqual(ready_between(HOUSE, "window", 0, LEADS), (3, 7))
        self.assertEqual((sure_start(HOUSE, "window", 9, LEADS), open_start(HOUSE, "window", 9, LEADS)), (2, 6))
        self.assertEqual([sure_start(HOUSE, "window", day, LEADS) for day in (8, 9, 10)], [1, 2, 3])

    def test_lacking(self):
        late, early = Book([], [("lead", "a", 1, None)]), Book([], [("lead", "a", None, 4)])
        plan = {"p": ("a", 2, [])}
        self.assertIsNone(sure_start(plan, "p", 9, late))
        self.assertEqual(open_start(plan, "p", 9, late), 6)
        self.assertEqual(sure_start(plan, "p", 9, early), 3)
        self.assertIsNone(open_start(plan, "p", 9, early))
        self.assertEqual(ready_between(plan, "p", 5, late), (8, None))
        self.assertEqual(ready_between(plan, "p", 5, early), (None, 11))
        self.assertEqual(ready_between(plan, "p", 5, EMPTY), (None, None))
        self.assertEqual((sure_start(plan, "p", 9, EMPTY), open_start(plan, "p", 9, EMPTY)), (None, None))

    def test_rows(self):
        book = Book([("a", 3, 9), ("a", 20, 30)], [])
        plan = {"p": ("a", 1, [])}
        self.assertEqual(sure_start(plan, "p", 10, book), 3)
        self.assertEqual(open_start(plan, "p", 10, book), 19)
        self.assertEqual(ready_between(plan, "p", 7, book), (10, 31))

    def test_drawn_tables(self):
        found = {}
        for draw, lists, log, promises in known_books.kept_books(421, 400, "ab", 3, 6):
            plan, day, book = slowplans.drawn_plan(draw, 3), draw.randint(-6, 9), Book(log, promises)
            part = draw.choice(list(plan))
            formula = slowplans.formula(plan, part)
            if len(slow.pieces(formula)) > 20:
                continue
            sure, hope = sure_start(plan, part, day, book), open_start(plan, part, day, book)
            last = slowplans.last_start(plan, part, day, lists)
            self.assertTrue((sure is None or sure <= last) and (hope is None or last <= hope))
            self.assertEqual((sure, hope), (last_sure(formula, day, book), last_hope(formula, day, book)))
            least, most = ready_between(plan, part, day, book)
            ready = slowplans.ready(plan, part, day, lists)
            self.assertTrue((least is None or least <= ready) and (most is None or ready <= most))
            self.assertEqual((least, most), (least_answer(formula, book, {"s": day}), greatest_answer(formula, book, {"s": day})))
            # From the sure start it is ready for all rules, from a day later not; so likewise with the open start.
            for start, due in ((sure, ("all", "breaks")), (hope, ("breaks", "all"))):
                if start is not None:
                    told = [slowplans.formula(plan, part), ("num", day)]
                    says = [("le", self.put(told[0], at), told[1]) for at in (start, start + 1)]
                    if due[0] == "all":
                        self.assertEqual([verdict(says[0], book), verdict(says[1], book)], ["all", "breaks"])
                    else:
                        self.assertEqual([verdict(("not", says[0]), book), verdict(("not", says[1]), book)], ["breaks", "all"])
            kind = (sure is None, hope is None)
            found[kind] = found.get(kind, 0) + 1
        self.assertTrue(len(found) == 4 and min(found.values()) > 10, found)

    def put(self, told, day):
        if told == ("day", "s"):
            return ("num", day)
        return tuple(self.put(part, day) if isinstance(part, tuple) else part for part in told)

    def test_refused(self):
        for call in (sure_start, open_start, ready_between):
            for value in wrong.NOT_PLANS:
                check_refused(self, InvalidPlan, value, lambda: call(value, None, None, BROKEN))
            check_missing(self, RingOfParts, "part", "p", lambda: call(RING, None, None, BROKEN))
            for value in wrong.NOT_PARTS:
                check_refused(self, InvalidPart, value, lambda: call(HOUSE, value, None, BROKEN))
            for value in wrong.NOT_DAYS:
                check_refused(self, InvalidDay, value, lambda: call(HOUSE, "roof", value, BROKEN))
            check_missing(self, MissingPart, "part", "roof", lambda: call(HOUSE, "roof", 3, BROKEN))
            for plan, part in ((HOUSE, "glass"), (doubled(12), "l")):
                check_broken(self, lambda: call(plan, part, 3, BROKEN))
            check_too_many(self, "pieces", 60, lambda: call(doubled(12), "f", 3, EMPTY))
        # 31 pieces, but turned and with ("num", 0) no more than 60.
        self.assertIsNone(sure_start(doubled(5), "e", 3, EMPTY))


if __name__ == "__main__":
    unittest.main()
