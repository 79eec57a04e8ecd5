"""Plans: their parts, formulas and ready days, parts left out and delayed, and plans that follow."""

import random
import unittest

from leadrules.errors import (InvalidCount, InvalidDay, InvalidPart, InvalidPlan, InvalidWorld, LastPart, MissingPart,
                              MissingRule, RingOfParts, SharedPart)
from leadrules.formulas import day_of
from leadrules.plans import (all_ready, followed, in_sequence, is_plan, plan_formula, plan_rules, ready, taken_in, waited_for,
                             with_delay, without_part)
from leadrules.sayings import pieces
from leadrules.tables import Table
from tests import drawn, slow, slowplans, wrong
from tests.wrong import STEP, check_missing, check_refused, check_too_many

S = ("day", "s")
HOUSE = {"frame": ("a", 2, []), "glass": ("b", 0, []), "window": ("a", 1, ["frame", "glass"])}
WORLD = {"a": Table([0, 7, 7, 7, 7, 7, 7]), "b": Table([3, 3, 6])}
RING = {"p": ("a", 0, ["r"]), "q": ("a", 0, ["p"]), "r": ("a", 0, ["q"]), "o": ("a", 0, []), "z": ("a", 0, ["r"])}


def chain(many):
    """A plan in which each part but the first one needs the one ahead of it."""
    names = [chr(ord("a") + at) for at in range(many)]
    return {name: ("a", 0, names[at - 1:at] if at else []) for at, name in enumerate(names)}


def doubled(many):
    """A plan whose part z has a formula with ever more pieces."""
    names = [chr(ord("a") + at) for at in range(many)]
    return {name: ("a", 0, names[:at]) for at, name in enumerate(names)}


def plan_calls():
    """All functions of a plan and a part, as functions of these two."""
    return [taken_in, plan_rules, plan_formula, without_part, lambda plan, part: ready(plan, part, None, None),
            lambda plan, part: waited_for(plan, part, None, None), lambda plan, part: with_delay(plan, part, None),
            lambda plan, part: followed(plan, part, None)]


class IsPlan(unittest.TestCase):
    def test_plans(self):
        for plan in (HOUSE, {"p": STEP}, chain(12), doubled(12), {"abcdefghijkl": ("h", 0, ())},
                     {"p": STEP, "q": ("a", 0, ("p",))}, {"p": STEP, "q": STEP, "r": STEP}, {"p": ("a", 10 ** 12, [])}):
            self.assertIs(is_plan(plan), True)

    def test_none(self):
        for value in wrong.NOT_PLANS + [RING, {"p": ("a", 0, ["p"])}, chain(13)] + wrong.ANYTHING:
            self.assertIs(is_plan(value), False)

    def test_needs_in_the_sequence_of_strings(self):
        parts = {"b": STEP, "ba": STEP, "c": STEP}
        for needs, due in ((["b", "ba", "c"], True), (["ba", "b", "c"], False), (["b", "c", "ba"], False), (["b", "c"], True),
                           (["c", "b"], False), (["b", "b"], False)):
            self.assertIs(is_plan({**parts, "d": ("a", 0, needs)}), due)

    def test_drawn_rings(self):
        draw = random.Random(400)
        found = {True: 0, False: 0}
        for _ in range(300):
            names = draw.sample("klmnop", draw.randint(1, 5))
            plan = {name: ("a", 0, sorted(draw.sample(names, draw.randint(0, min(len(names), 2))))) for name in names}
            rings = slowplans.rings(plan)
            found[not rings] += 1
            self.assertIs(is_plan(plan), not rings)
            if rings:
                check_missing(self, RingOfParts, "part", rings[0], lambda: in_sequence(plan))
        self.assertTrue(min(found.values()) > 50, found)


class Told(unittest.TestCase):
    def test_taken_in(self):
        self.assertEqual(taken_in(HOUSE, "window"), ["frame", "glass", "window"])
        self.assertEqual(taken_in(HOUSE, "glass"), ["glass"])
        self.assertEqual(taken_in(chain(12), "l"), list("abcdefghijkl"))

    def test_in_sequence(self):
        self.assertEqual(in_sequence(HOUSE), ["frame", "glass", "window"])
        plan = {"a": ("a", 0, ["z"]), "z": STEP, "m": STEP, "b": ("a", 0, ["a"])}
        self.assertEqual(in_sequence(plan), ["m", "z", "a", "b"])

    def test_rules(self):
        self.assertEqual(plan_rules(HOUSE, "window"), ["a", "b"])
        self.assertEqual(plan_rules(HOUSE, "frame"), ["a"])
        self.assertEqual(plan_rules({"p": ("h", 0, []), "q": ("c", 0, ["p"]), "r": ("d", 0, [])}, "q"), ["c", "h"])

    def test_formula(self):
        self.assertEqual(plan_formula(HOUSE, "glass"), ("on", "b", S))
        self.assertEqual(plan_formula(HOUSE, "frame"), ("add", 2, ("on", "a", S)))
        one, two, three = [("on", rule, S) for rule in "bcd"]
        plan = {"k": ("b", 0, []), "l": ("c", 0, []), "m": ("d", 0, []), "n": ("a", 0, ["k", "l", "m"]), "o": ("a", 4, ["n"])}
        asked = ("late", ("late", one, two), three)
        self.assertEqual(plan_formula(plan, "n"), ("on", "a", asked))
        self.assertEqual(plan_formula(plan, "o"), ("add", 4, ("on", "a", ("on", "a", asked))))

    def test_many_pieces(self):
        # Of parts that need all those ahead of them the formulas have 2, 3, 7, 15, 31, 63 pieces.
        self.assertEqual([pieces(plan_formula(doubled(12), part)) for part in "abcde"], [2, 3, 7, 15, 31])
        for part in "fghijkl":
            check_too_many(self, "pieces", 60, lambda: plan_formula(doubled(12), part))
        self.assertEqual(pieces(plan_formula(chain(12), "l")), 13)
        self.assertEqual(pieces(plan_formula({**doubled(5), "z": ("a", 1, ["b", "e"])}, "z")), 31 + 3 + 1 + 2)

    def test_slow_reckoning(self):
        draw = random.Random(401)
        for _ in range(200):
            plan = slowplans.drawn_plan(draw, 7, "abc")
            self.assertEqual(in_sequence(plan), slowplans.in_sequence(plan))
            for part in plan:
                self.assertEqual(taken_in(plan, part), slowplans.taken_in(plan, part))
                due = slowplans.formula(plan, part)
                if len(slow.pieces(due)) <= 60:
                    self.assertEqual(plan_formula(plan, part), due)
                else:
                    check_too_many(self, "pieces", 60, lambda: plan_formula(plan, part))
                self.assertEqual(plan_rules(plan, part), sorted({plan[told][0] for told in slowplans.taken_in(plan, part)}))


class Ready(unittest.TestCase):
    def test_ready(self):
        self.assertEqual([ready(HOUSE, part, 3, WORLD) for part in ("frame", "glass", "window")], [9, 6, 15])
        self.assertEqual(all_ready(HOUSE, 3, WORLD), {"frame": 9, "glass": 6, "window": 15})

    def test_ahead_of_the_start(self):
        self.assertEqual(all_ready({"p": ("a", 1, []), "q": ("b", 0, ["p"])}, 4, {"a": Table([-9]), "b": Table([-2])}),
                         {"p": -4, "q": -6})

    def test_waited_for(self):
        self.assertEqual(waited_for(HOUSE, "window", 3, WORLD), ["frame", "window"])
        self.assertEqual(waited_for(HOUSE, "glass", 3, WORLD), ["glass"])
        # Two that are ready last: the least one.
        alike = {"n": ("b", 0, []), "m": ("b", 0, []), "o": ("b", 0, ["m", "n"]), "p": ("b", 0, ["o"])}
        self.assertEqual(waited_for(alike, "p", 0, WORLD), ["m", "o", "p"])

    def test_rules_of_parts_taken_in(self):
        only = {"b": WORLD["b"]}
        self.assertEqual(ready(HOUSE, "glass", 3, only), 6)
        for call in (ready, waited_for):
            check_missing(self, MissingRule, "rule", "a", lambda: call(HOUSE, "window", 3, {}))
            check_missing(self, MissingRule, "rule", "a", lambda: call(HOUSE, "window", 3, only))
        check_missing(self, MissingRule, "rule", "a", lambda: all_ready(HOUSE, 3, only))
        check_missing(self, MissingRule, "rule", "b", lambda: all_ready(HOUSE, 3, {"a": WORLD["a"]}))

    def test_no_limit_of_pieces(self):
        """What is told in a world makes no formula."""
        world = {"a": Table([1])}
        self.assertEqual(all_ready(doubled(12), 0, world), {name: at + 1 for at, name in enumerate("abcdefghijkl")})
        self.assertEqual(ready(doubled(12), "l", -5, world), 7)

    def test_slow_reckoning(self):
        """Day after day, and beside the formula."""
        draw = random.Random(402)
        for _ in range(200):
            plan, lists = slowplans.drawn_plan(draw, 6), drawn.lists(draw, "ab")
            world, start = drawn.world(lists), draw.randint(-9, 9)
            days = all_ready(plan, start, world)
            self.assertEqual(days, {part: slowplans.ready(plan, part, start, lists) for part in plan})
            self.assertEqual(list(days), sorted(plan))
            for part in plan:
                self.assertEqual(ready(plan, part, start, world), days[part])
                self.assertEqual(waited_for(plan, part, start, world), slowplans.waited_for(plan, part, start, lists))
                told = slowplans.formula(plan, part)
                if len(slow.pieces(told)) <= 60:
                    self.assertEqual(day_of(told, {"s": start}, world), days[part])


class LeftOut(unittest.TestCase):
    def test_left_out(self):
        plan = {"o": ("b", 1, []), "p": ("a", 0, ["o"]), "q": ("c", 2, ["p"]), "r": ("a", 0, ["o", "p", "q"])}
        self.assertEqual(without_part(plan, "p"), {"o": ("b", 1, []), "q": ("c", 2, ["o"]), "r": ("a", 0, ["o", "q"])})
        self.assertEqual(without_part(plan, "o"), {"p": ("a", 0, []), "q": ("c", 2, ["p"]), "r": ("a", 0, ["p", "q"])})
        # One that nothing needs, and one that the others need already.
        self.assertEqual(without_part(plan, "r"), {"o": ("b", 1, []), "p": ("a", 0, ["o"]), "q": ("c", 2, ["p"])})
        self.assertEqual(without_part(plan, "q"), {"o": ("b", 1, []), "p": ("a", 0, ["o"]), "r": ("a", 0, ["o", "p"])})

    def test_in_sequence_again(self):
        plan = {"a": STEP, "c": STEP, "b": ("a", 0, ["a", "c"]), "d": STEP, "z": ("a", 0, ["b", "d"])}
        self.assertEqual(without_part(plan, "b")["z"], ("a", 0, ["a", "c", "d"]))

    def test_the_only_one(self):
        check_missing(self, LastPart, "part", "p", lambda: without_part({"p": STEP}, "p"))
        check_missing(self, MissingPart, "part", "q", lambda: without_part({"p": STEP}, "q"))

    def test_slow_reckoning(self):
        draw = random.Random(403)
        for _ in range(200):
            plan = slowplans.drawn_plan(draw, 7, "abc")
            for part in plan:
                if len(plan) > 1:
                    found = without_part(plan, part)
                    self.assertEqual(found, slowplans.without(plan, part))
                    self.assertTrue(is_plan(found))
                    self.assertEqual(list(found), sorted(found))


class Delayed(unittest.TestCase):
    def test_delayed(self):
        self.assertEqual(with_delay(HOUSE, "frame", 5), {**HOUSE, "frame": ("a", 7, [])})
        self.assertEqual(with_delay(HOUSE, "window", 0), HOUSE)
        self.assertEqual(list(with_delay({"q": STEP, "p": STEP}, "q", 1)), ["p", "q"])

    def test_refused(self):
        for value in wrong.NOT_COUNTS:
            check_refused(self, InvalidCount, value, lambda: with_delay(HOUSE, "roof", value))
        check_missing(self, MissingPart, "part", "roof", lambda: with_delay(HOUSE, "roof", 1))


class Followed(unittest.TestCase):
    OTHER = {"roof": ("b", 3, ["beam"]), "beam": ("a", 0, []), "nail": ("c", 1, ())}

    def test_followed(self):
        both = followed(HOUSE, "frame", self.OTHER)
        self.assertEqual(both, {**HOUSE, "roof": ("b", 3, ["beam"]), "beam": ("a", 0, ["frame"]), "nail": ("c", 1, ["frame"])})
        self.assertEqual(list(both), sorted(both))

    def test_begun_when_the_part_is_ready(self):
        draw = random.Random(404)
        for _ in range(100):
            plan, other = slowplans.drawn_plan(draw, 5), slowplans.drawn_plan(draw, 5, "bc", "st")
            lists, part = drawn.lists(draw, "abc"), draw.choice(list(plan))
            both, start = followed(plan, part, other), draw.randint(-9, 9)
            begun = slowplans.ready(plan, part, start, lists)
            for told in plan:
                self.assertEqual(slowplans.ready(both, told, start, lists), slowplans.ready(plan, told, start, lists))
            for told in other:
                self.assertEqual(slowplans.ready(both, told, start, lists), slowplans.ready(other, told, begun, lists))

    def test_shared_parts(self):
        check_missing(self, SharedPart, "part", "frame", lambda: followed(HOUSE, "glass", {"window": STEP, "frame": STEP}))
        check_missing(self, SharedPart, "part", "a", lambda: followed(chain(12), "l", chain(12)))
        check_missing(self, MissingPart, "part", "roof", lambda: followed(HOUSE, "roof", HOUSE))

    def test_too_many_parts(self):
        other = {"y" + letter: STEP for letter in "abcdefghijkl"}
        for many in range(1, 13):
            fewer = dict(list(other.items())[:many])
            if many + 3 <= 12:
                self.assertEqual(len(followed(HOUSE, "glass", fewer)), many + 3)
            else:
                check_too_many(self, "parts", 12, lambda: followed(HOUSE, "glass", fewer))

    def test_refused(self):
        for value in wrong.NOT_PLANS:
            check_refused(self, InvalidPlan, value, lambda: followed(HOUSE, "roof", value))
        check_missing(self, RingOfParts, "part", "p", lambda: followed(HOUSE, "roof", RING))


class Refused(unittest.TestCase):
    def test_plans(self):
        for call in plan_calls() + [lambda plan, part: in_sequence(plan), lambda plan, part: all_ready(plan, None, None)]:
            for value in wrong.NOT_PLANS:
                check_refused(self, InvalidPlan, value, lambda: call(value, None))
            check_missing(self, RingOfParts, "part", "p", lambda: call(RING, None))
            check_missing(self, RingOfParts, "part", "o", lambda: call({"o": ("a", 0, ["o"]), "p": ("a", 0, ["p"])}, None))

    def test_parts(self):
        for call in plan_calls():
            for value in wrong.NOT_PARTS:
                check_refused(self, InvalidPart, value, lambda: call(HOUSE, value))
        for call in plan_calls()[:4]:
            check_missing(self, MissingPart, "part", "roof", lambda: call(HOUSE, "roof"))

    def test_days_and_worlds_ahead_of_what_is_missing(self):
        for call in (ready, waited_for):
            for value in wrong.NOT_DAYS:
                check_refused(self, InvalidDay, value, lambda: call(HOUSE, "roof", value, None))
            for value in wrong.NOT_WORLDS:
                check_refused(self, InvalidWorld, value, lambda: call(HOUSE, "roof", 3, value))
            check_missing(self, MissingPart, "part", "roof", lambda: call(HOUSE, "roof", 3, {}))
        for value in wrong.NOT_DAYS:
            check_refused(self, InvalidDay, value, lambda: all_ready(HOUSE, value, None))
        for value in wrong.NOT_WORLDS:
            check_refused(self, InvalidWorld, value, lambda: all_ready(HOUSE, 3, value))


if __name__ == "__main__":
    unittest.main()
