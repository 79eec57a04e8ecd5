"""Formulas: what they are, their days, rows and chains, and their last and first days."""

import itertools
import random
import unittest

from leadrules.errors import InvalidRows, MissingName, MissingRule, NoTurn
from leadrules.formulas import day_of, first_day, is_chain, is_formula, last_day, rows_of, woven
from leadrules.tables import Table
from tests import drawn, slow, wrong
from tests.wrong import check_missing, check_refused, check_too_many

X, Y = ("day", "x"), ("day", "y")


def tower(many, told=X):
    """A formula with so many adds around it."""
    for _ in range(many):
        told = ("add", 1, told)
    return told


def soons(many):
    """A formula of so many chains, each sooner than all ahead of it: 2 * many - 1 pieces, one row."""
    told = ("num", 0)
    for number in range(1, many):
        told = ("soon", told, ("num", number))
    return told


def balanced(word, parts):
    """Parts within late or soon, in as few steps as can be."""
    while len(parts) > 1:
        parts = [(word, parts[at], parts[at + 1]) if at + 1 < len(parts) else parts[at]
                 for at in range(0, len(parts), 2)]
    return parts[0]


def many_rows(lates, soon_parts):
    """A soon of so many parts, each a late of so many unlike nums."""
    numbers = itertools.count()
    return balanced("soon", [balanced("late", [("num", next(numbers)) for _ in range(lates)])
                             for _ in range(soon_parts)])


class Judged(unittest.TestCase):
    def test_formulas(self):
        for value in (X, ("num", 0), ("num", -10 ** 12), ("on", "a", X), ("by", "h", ("num", 1)), ("til", "c", X),
                      ("add", 0, X), ("add", -3, ("add", 3, X)), ("late", X, X), ("soon", X, ("late", Y, ("num", 2))),
                      tower(35), balanced("late", [X] * 200)):
            self.assertIs(is_formula(value), True)
        for value in wrong.NOT_FORMULAS:
            self.assertIs(is_formula(value), False)
            for outer in (("on", "a", value), ("add", 1, value), ("late", X, value), ("soon", value, X)):
                self.assertIs(is_formula(outer), False)

    def test_all_names_and_rules(self):
        for letter in "abcdefghijklmnopqrstuvwxyz":
            self.assertIs(is_formula(("day", letter)), letter >= "p")
            for word in ("on", "by", "til"):
                self.assertIs(is_formula((word, letter, X)), letter <= "h")

    def test_chains(self):
        for value in (X, ("num", 3), ("on", "a", ("by", "b", ("til", "c", ("add", 1, X)))), tower(35)):
            self.assertIs(is_chain(value), True)
        for value in (("late", X, X), ("soon", X, X), ("on", "a", ("late", X, Y)), ("add", 1, ("soon", X, Y))):
            self.assertIs(is_chain(value), False)
        for value in wrong.NOT_FORMULAS:
            self.assertIs(is_chain(value), False)


class Days(unittest.TestCase):
    def test_each_word(self):
        week = {"a": Table([0, 7, 7, 7, 7, 7, 7])}
        days = {"x": 8, "y": -1}
        told = {X: 8, ("num", -5): -5, ("on", "a", X): 14, ("by", "a", X): 8, ("til", "a", X): 7, ("add", -9, X): -1,
                ("late", X, Y): 8, ("soon", X, Y): -1, ("on", "a", ("til", "a", Y)): -7}
        for formula, day in told.items():
            self.assertEqual(day_of(formula, days, week), day)

    def test_slow_reckoning(self):
        draw = random.Random(11)
        for _ in range(400):
            formula, days, lists = drawn.formula(draw, 4), drawn.days(draw), drawn.lists(draw)
            if len(slow.pieces(formula)) <= 60:
                self.assertEqual(day_of(formula, days, drawn.world(lists)), slow.day_of(formula, days, lists))

    def test_far_days(self):
        world = {"a": Table([3, 3, 6])}
        for day in (-10 ** 12, 10 ** 12):
            self.assertEqual(day_of(("til", "a", ("on", "a", X)), {"x": day}, world),
                             max(at for at in range(day, day + 6) if world["a"].on(at) == world["a"].on(day)))

    def test_facts_of_the_words(self):
        draw = random.Random(12)
        for _ in range(60):
            told = drawn.formula(draw, 2)
            days, world = drawn.days(draw), drawn.world(drawn.lists(draw))
            day = day_of(told, days, world)
            self.assertLessEqual(day_of(("on", "a", ("til", "a", told)), days, world), day)
            self.assertGreaterEqual(day_of(("on", "a", ("by", "a", told)), days, world), day)
            self.assertGreaterEqual(day_of(("til", "a", ("on", "a", told)), days, world), day)
            self.assertLessEqual(day_of(("by", "a", ("on", "a", told)), days, world), day)
            for name in days:
                self.assertLessEqual(day, day_of(told, dict(days, **{name: days[name] + 1}), world))

    def test_what_is_missing(self):
        told = ("on", "b", ("late", ("by", "c", Y), ("til", "a", X)))
        table = Table([0])
        check_missing(self, MissingRule, "rule", "a", lambda: day_of(told, {}, {}))
        check_missing(self, MissingRule, "rule", "b", lambda: day_of(told, {}, {"a": table, "c": table}))
        check_missing(self, MissingRule, "rule", "c", lambda: day_of(told, {"x": 1}, {"a": table, "b": table}))
        world = {"a": table, "b": table, "c": table, "d": table}
        check_missing(self, MissingName, "name", "x", lambda: day_of(told, {}, world))
        check_missing(self, MissingName, "name", "y", lambda: day_of(told, {"x": 1, "z": 1}, world))
        self.assertEqual(day_of(told, {"x": 1, "y": 2, "p": 3}, world), 2)

    def test_sixty_pieces(self):
        self.assertEqual(day_of(tower(59), {"x": 1}, {}), 60)
        check_too_many(self, "pieces", 60, lambda: day_of(tower(60), {"x": 1}, {}))
        check_too_many(self, "pieces", 60, lambda: day_of(balanced("late", [X] * 31), {"x": 1}, {}))
        self.assertEqual(day_of(("add", 1, balanced("late", [X] * 30)), {"x": 1}, {}), 2)
        check_missing(self, MissingName, "name", "x", lambda: day_of(tower(60), {}, {}))
        check_missing(self, MissingRule, "rule", "a", lambda: day_of(tower(60, ("on", "a", X)), {}, {}))


class Rows(unittest.TestCase):
    def test_rows_of(self):
        z = ("day", "z")
        self.assertEqual(rows_of(X), [[X]])
        self.assertEqual(rows_of(("late", X, Y)), [[X], [Y]])
        self.assertEqual(rows_of(("soon", X, Y)), [[X, Y]])
        self.assertEqual(rows_of(("soon", ("late", X, Y), ("late", z, Y))), [[X, z], [X, Y], [Y, z], [Y]])
        self.assertEqual(rows_of(("on", "a", ("add", 2, ("soon", X, ("late", Y, z))))),
                         [[("on", "a", ("add", 2, X)), ("on", "a", ("add", 2, Y))],
                          [("on", "a", ("add", 2, X)), ("on", "a", ("add", 2, z))]])
        self.assertEqual(rows_of(("late", ("by", "a", X), ("til", "b", ("late", X, Y)))),
                         [[("by", "a", X)], [("til", "b", X)], [("til", "b", Y)]])

    def test_left_out(self):
        self.assertEqual(rows_of(("soon", ("soon", X, Y), X)), [[X, Y]])
        self.assertEqual(rows_of(("late", ("late", X, Y), X)), [[X], [Y]])
        self.assertEqual(rows_of(("late", ("soon", X, Y), ("soon", Y, X))), [[X, Y], [Y, X]])
        self.assertEqual(rows_of(("late", ("soon", X, X), X)), [[X]])
        self.assertEqual(rows_of(("soon", ("late", X, Y), ("late", X, Y))), [[X], [X, Y], [Y, X], [Y]])
        self.assertEqual(rows_of(("soon", ("late", X, X), Y)), [[X, Y]])

    def test_same_day_as_the_rows(self):
        draw = random.Random(13)
        for _ in range(150):
            formula, days, lists = drawn.formula(draw, 4), drawn.days(draw), drawn.lists(draw)
            found = wrong.raised(lambda: rows_of(formula))
            if found is None:
                day = max(min(slow.day_of(chain, days, lists) for chain in row) for row in rows_of(formula))
                self.assertEqual(day, slow.day_of(formula, days, lists))
                self.assertTrue(all(is_chain(chain) for row in rows_of(formula) for chain in row))
            else:
                self.assertEqual(found.__class__.__name__, "TooMany")

    def test_many_rows(self):
        self.assertEqual(len(rows_of(many_rows(3, 1))), 3)
        self.assertEqual(len(rows_of(("soon", many_rows(6, 1), balanced("late", [("day", name) for name in "pqrstuvwxy"])))),
                         60)
        # 32 rows ahead of any being left out, and 4 unlike ones.
        self.assertEqual(rows_of(balanced("soon", [("late", X, Y)] * 5)), [[X], [X, Y], [Y, X], [Y]])
        check_too_many(self, "ways", 60, lambda: rows_of(many_rows(8, 2)))
        check_too_many(self, "ways", 60, lambda: rows_of(("late", X, ("soon", many_rows(6, 1), many_rows(10, 1)))))
        # 64 rows ahead of any being left out, though but one is unlike.
        check_too_many(self, "ways", 60, lambda: rows_of(balanced("soon", [balanced("late", [X, X])] * 6)))
        # Far more than can be written down.
        check_too_many(self, "ways", 60, lambda: rows_of(balanced("soon", [balanced("late", [X, Y])] * 15)))

    def test_pieces_ahead_of_ways(self):
        check_too_many(self, "pieces", 60, lambda: rows_of(balanced("soon", [balanced("late", [X, Y])] * 16)))
        self.assertEqual(len(rows_of(soons(30))[0]), 30)
        self.assertEqual(rows_of(tower(59)), [[tower(59)]])
        check_too_many(self, "pieces", 60, lambda: rows_of(tower(60)))

    def test_woven(self):
        z = ("on", "a", X)
        self.assertEqual([woven([[X]]), woven([[X, Y]]), woven([[X], [Y]]), woven(((X,), (Y,)))],
                         [X, ("soon", X, Y), ("late", X, Y), ("late", X, Y)])
        self.assertEqual(woven([[X, Y, z], [X], [Y, z]]),
                         ("late", ("late", ("soon", ("soon", X, Y), z), X), ("soon", Y, z)))
        self.assertEqual(woven([[X, X]]), ("soon", X, X))
        for value in wrong.NOT_WOVEN_ROWS:
            check_refused(self, InvalidRows, value, lambda: woven(value))

    def test_woven_has_the_same_days(self):
        draw = random.Random(14)
        for _ in range(60):
            formula, days, lists = drawn.formula(draw, 3), drawn.days(draw), drawn.lists(draw)
            told = rows_of(formula)
            if sum(len(slow.pieces(chain)) + 1 for row in told for chain in row) <= 61:
                self.assertEqual(slow.day_of(woven(told), days, lists), slow.day_of(formula, days, lists))

    def test_woven_of_many_pieces(self):
        self.assertEqual(len(slow.pieces(woven([[X]] * 30))), 59)
        check_too_many(self, "pieces", 60, lambda: woven([[X]] * 31))
        check_too_many(self, "pieces", 60, lambda: woven([[X] * 16, [Y] * 15]))
        self.assertEqual(woven([[tower(59)]]), tower(59))
        check_too_many(self, "pieces", 60, lambda: woven([[tower(60)]]))
        self.assertEqual(len(slow.pieces(woven([[tower(29), tower(28)]]))), 60)
        check_too_many(self, "pieces", 60, lambda: woven([[tower(29), tower(29)]]))
        check_too_many(self, "pieces", 60, lambda: woven([[X] * 60] * 60))
        none = [[X]] * 60 + [[]]
        check_refused(self, InvalidRows, none, lambda: woven(none))


class Turned(unittest.TestCase):
    def check_days(self, formula, name, day, lists):
        """Compare with going from day to day."""
        world = drawn.world(lists)

        def reckon(at):
            return slow.day_of(formula, {name: at}, lists)

        span = range(day - 60, day + 61)
        self.assertEqual(last_day(formula, day, world), max(at for at in span if reckon(at) <= day))
        self.assertEqual(first_day(formula, day, world), min(at for at in span if reckon(at) >= day))

    def test_going_from_day_to_day(self):
        draw = random.Random(15)
        for _ in range(120):
            formula = drawn.formula(draw, 3, "x", "ab", "days")
            lists = {rule: drawn.list_of_days(draw, draw.randint(1, 4), 2) for rule in "ab"}
            self.check_days(formula, "x", draw.randint(-6, 6), lists)

    def test_each_word(self):
        draw = random.Random(16)
        for formula in (X, ("on", "a", X), ("by", "a", X), ("til", "a", X), ("add", 3, X), ("add", -3, X),
                        ("late", X, ("add", 2, ("on", "a", X))), ("soon", ("by", "a", X), ("on", "a", X))):
            for _ in range(8):
                self.check_days(formula, "x", draw.randint(-6, 6), drawn.lists(draw))

    def test_one_behind_another(self):
        world = {"a": Table([0, 3, 3]), "b": Table([0, 7, 7, 7, 7, 7, 7])}
        told = ("on", "b", ("on", "a", X))
        last = last_day(told, 20, world)
        self.assertEqual((last, first_day(told, 21, world)), (12, 13))
        self.assertEqual(last_day(told, 10 ** 12, world),
                         max(at for at in range(10 ** 12 - 20, 10 ** 12 + 1) if day_of(told, {"x": at}, world) <= 10 ** 12))

    def test_what_is_refused(self):
        world = {"a": Table([0])}
        for call in (last_day, first_day):
            for told in (("num", 3), ("late", X, Y), ("on", "a", ("num", 3)), ("late", X, ("num", 0)),
                         ("soon", ("num", 0), X), ("add", 1, ("soon", X, ("on", "a", Y)))):
                check_refused(self, NoTurn, told, lambda: call(told, 3, world))
            check_missing(self, MissingRule, "rule", "b", lambda: call(("late", ("on", "c", X), ("by", "b", Y)), 3, world))
            check_missing(self, MissingRule, "rule", "c", lambda: call(tower(60, ("on", "c", X)), 3, world))
            long = balanced("late", [X] * 30 + [Y])
            check_refused(self, NoTurn, long, lambda: call(long, 3, world))
            check_too_many(self, "pieces", 60, lambda: call(tower(60), 3, world))
            self.assertEqual(call(tower(59), 3, world), 3 - 59)
            # Turned as a formula this one would have far more than 60 pieces.
            wide = balanced("late", [("til", "a", ("til", "a", X))] * 15)
            self.assertEqual(call(wide, 3, world), 3)


if __name__ == "__main__":
    unittest.main()
