"""Sayings: what they are, when they hold, and what is made of them."""

import random
import unittest

from leadrules.errors import MissingName, MissingRule
from leadrules.sayings import (contrary, holds, is_saying, names_of, pieces, plain, positive, pushed, put, rules_of,
                               ways, with_names, with_rules)
from leadrules.tables import Table
from tests import drawn, slow, wrong
from tests.test_formulas import balanced, tower
from tests.wrong import check_missing, check_too_many, raised

X, Y, Z = ("day", "x"), ("day", "y"), ("day", "z")
A, B, C, D = ("le", X, Y), ("le", Y, X), ("le", X, ("num", 0)), ("le", ("on", "a", X), Y)


def no(saying):
    return ("not", saying)


def nots(many, saying=A):
    """A saying with so many nots ahead of it."""
    for _ in range(many):
        saying = no(saying)
    return saying


def drawn_cases(seed, many, depth=3):
    """Sayings of at most 60 pieces, with days and lists of days."""
    draw = random.Random(seed)
    found = 0
    while found < many:
        saying = drawn.saying(draw, depth)
        if len(slow.pieces(saying)) <= 60:
            found += 1
            yield saying, drawn.days(draw), drawn.lists(draw)


class Judged(unittest.TestCase):
    def test_sayings(self):
        for value in (A, no(A), ("and", A, B), ("or", no(no(A)), ("and", C, D)), nots(35), balanced("and", [A] * 100),
                      ("le", balanced("late", [X] * 99), tower(30))):
            self.assertIs(is_saying(value), True)
        for value in wrong.NOT_SAYINGS:
            self.assertIs(is_saying(value), False)
            for outer in (no(value), ("and", value, A), ("or", A, value)):
                self.assertIs(is_saying(outer), False)
        for value in wrong.NOT_FORMULAS:
            self.assertIs(is_saying(("le", X, value)), False)
            self.assertIs(is_saying(("le", value, X)), False)


class Holds(unittest.TestCase):
    def test_each_word(self):
        days = {"x": 1, "y": 2}
        told = {A: True, B: False, ("le", X, X): True, no(A): False, no(B): True, ("and", A, B): False,
                ("and", A, A): True, ("or", A, B): True, ("or", B, B): False, ("or", B, A): True, ("and", B, A): False}
        for saying, truth in told.items():
            self.assertIs(holds(saying, days, {}), truth)

    def test_slow_reckoning(self):
        for saying, days, lists in drawn_cases(21, 300):
            self.assertIs(holds(saying, days, drawn.world(lists)), slow.holds(saying, days, lists))

    def test_what_is_missing(self):
        told = ("or", ("le", ("on", "b", X), Y), no(("le", ("til", "a", X), Z)))
        table = Table([0])
        check_missing(self, MissingRule, "rule", "a", lambda: holds(told, {}, {}))
        check_missing(self, MissingRule, "rule", "b", lambda: holds(told, {}, {"a": table}))
        check_missing(self, MissingName, "name", "x", lambda: holds(told, {}, {"a": table, "b": table}))
        check_missing(self, MissingName, "name", "z", lambda: holds(told, {"x": 1, "y": 5}, {"a": table, "b": table}))
        check_missing(self, MissingName, "name", "x", lambda: holds(nots(60), {"y": 1}, {}))

    def test_sixty_pieces(self):
        self.assertIs(holds(nots(57), {"x": 0, "y": 1}, {}), False)
        check_too_many(self, "pieces", 60, lambda: holds(nots(58), {"x": 0, "y": 1}, {}))
        self.assertIs(holds(("le", tower(29), tower(28)), {"x": 0}, {}), False)
        check_too_many(self, "pieces", 60, lambda: holds(("le", tower(29), tower(29)), {"x": 0}, {}))


class Counted(unittest.TestCase):
    def test_pieces(self):
        self.assertEqual([pieces(X), pieces(("on", "a", X)), pieces(("late", X, X)), pieces(A), pieces(no(("or", A, D)))],
                         [1, 2, 3, 3, 9])
        self.assertEqual([pieces(tower(35)), pieces(balanced("and", [A] * 200))], [36, 799])
        for saying, _, _ in drawn_cases(22, 60):
            self.assertEqual(pieces(saying), len(slow.pieces(saying)))

    def test_names_and_rules(self):
        told = ("or", ("le", ("on", "b", Z), ("add", 3, Y)), no(("le", ("til", "h", Y), ("by", "a", ("num", 3)))))
        self.assertEqual((names_of(told), rules_of(told)), (["y", "z"], ["a", "b", "h"]))
        self.assertEqual((names_of(("num", 3)), rules_of(X), names_of(X)), ([], [], ["x"]))
        self.assertEqual(rules_of(balanced("late", [("on", "b", X), ("by", "a", X)] * 60)), ["a", "b"])
        self.assertEqual(names_of(balanced("and", [A] * 100)), ["x", "y"])


class Put(unittest.TestCase):
    def test_put(self):
        told = ("le", ("late", X, ("on", "a", ("add", 1, X))), Y)
        self.assertEqual(put(told, "x", ("num", 4)), ("le", ("late", ("num", 4), ("on", "a", ("add", 1, ("num", 4)))), Y))
        self.assertEqual(put(X, "x", ("by", "b", X)), ("by", "b", X))
        self.assertEqual(put(("late", X, Y), "x", Y), ("late", Y, Y))
        self.assertEqual(put(("late", X, Y), "y", ("add", 1, Y)), ("late", X, ("add", 1, Y)))
        self.assertEqual(put(no(("and", A, C)), "z", Y), no(("and", A, C)))
        self.assertEqual(put(("num", 3), "x", Y), ("num", 3))

    def test_days_of_what_was_put(self):
        draw = random.Random(23)
        for saying, days, lists in drawn_cases(24, 80):
            formula = drawn.formula(draw, 2)
            changed = dict(days, x=slow.day_of(formula, days, lists))
            made = raised(lambda: put(saying, "x", formula))
            if made is None:
                self.assertIs(slow.holds(put(saying, "x", formula), days, lists), slow.holds(saying, changed, lists))
            inner = saying
            while inner[0] != "le":
                inner = inner[1]
            if len(slow.pieces(inner[1])) * len(slow.pieces(formula)) <= 60:
                self.assertEqual(slow.day_of(put(inner[1], "x", formula), days, lists),
                                 slow.day_of(inner[1], changed, lists))

    def test_pieces_given_and_made(self):
        self.assertEqual(pieces(put(tower(29), "x", tower(29))), 59)
        check_too_many(self, "pieces", 60, lambda: put(tower(30), "x", tower(29)))
        check_too_many(self, "pieces", 60, lambda: put(tower(30), "y", tower(29)))
        check_too_many(self, "pieces", 60, lambda: put(nots(58), "z", X))
        check_too_many(self, "pieces", 60, lambda: put(nots(57), "z", X))
        self.assertEqual(put(nots(56), "z", X), nots(56))
        wide = balanced("late", [X] * 6)
        self.assertEqual(pieces(put(("add", 1, wide), "x", tower(7))), 54)
        self.assertEqual(pieces(put(wide, "x", ("late", Y, tower(5)))), 53)
        check_too_many(self, "pieces", 60, lambda: put(("late", wide, ("num", 1)), "x", tower(8)))
        self.assertEqual(pieces(put(("add", 1, wide), "x", tower(8))), 60)


class Renamed(unittest.TestCase):
    def test_rules(self):
        told = ("le", ("on", "a", ("by", "b", X)), ("til", "c", ("on", "a", Y)))
        self.assertEqual(with_rules(told, {"a": "b", "b": "a"}),
                         ("le", ("on", "b", ("by", "a", X)), ("til", "c", ("on", "b", Y))))
        self.assertEqual(with_rules(told, {"c": "h", "d": "e"}),
                         ("le", ("on", "a", ("by", "b", X)), ("til", "h", ("on", "a", Y))))
        self.assertEqual([with_rules(told, {}), with_rules(X, {"a": "b"})], [told, X])

    def test_names(self):
        told = ("late", X, ("add", 3, ("soon", Y, Z)))
        self.assertEqual(with_names(told, {"x": "y", "y": "z", "z": "x"}), ("late", Y, ("add", 3, ("soon", Z, X))))
        self.assertEqual(with_names(no(A), {"x": "y"}), no(("le", Y, Y)))
        self.assertEqual([with_names(told, {}), with_names(("num", 1), {"x": "y"})], [told, ("num", 1)])

    def test_same_truth(self):
        for saying, days, lists in drawn_cases(25, 60):
            rules, names = {"a": "b", "b": "d"}, {"x": "z", "y": "x", "z": "y"}
            other_lists = {rules[rule]: lists[rule] for rule in lists}
            other_days = {names[name]: days[name] for name in days}
            self.assertIs(slow.holds(with_rules(saying, rules), days, other_lists), slow.holds(saying, days, lists))
            self.assertIs(slow.holds(with_names(saying, names), other_days, lists), slow.holds(saying, days, lists))

    def test_sixty_pieces(self):
        for call, table in ((with_rules, {"a": "b"}), (with_names, {"x": "z"})):
            self.assertEqual(pieces(call(nots(57), table)), 60)
            check_too_many(self, "pieces", 60, lambda: call(nots(58), table))
            check_too_many(self, "pieces", 60, lambda: call(tower(60), table))


class Pushed(unittest.TestCase):
    def test_pushed(self):
        told = {A: A, no(A): no(A), no(no(A)): A, nots(3): no(A), nots(4): A,
                no(("and", A, B)): ("or", no(A), no(B)), no(("or", A, B)): ("and", no(A), no(B)),
                no(("and", A, no(B))): ("or", no(A), B), ("and", no(no(A)), B): ("and", A, B),
                no(("or", ("and", A, B), no(C))): ("and", ("or", no(A), no(B)), C), ("or", A, no(A)): ("or", A, no(A))}
        for saying, made in told.items():
            self.assertEqual(pushed(saying), made)
            self.assertEqual(contrary(no(saying)), made)
            self.assertEqual(pushed(no(saying)), contrary(saying))

    def test_contrary(self):
        told = {A: no(A), no(A): A, ("and", A, no(B)): ("or", no(A), B), ("or", A, B): ("and", no(A), no(B)),
                no(("and", A, B)): ("and", A, B)}
        for saying, made in told.items():
            self.assertEqual(contrary(saying), made)

    def test_positive(self):
        told = {A: A, no(A): ("le", ("add", 1, Y), X), no(no(A)): A,
                no(("or", A, D)): ("and", ("le", ("add", 1, Y), X), ("le", ("add", 1, Y), ("on", "a", X)))}
        for saying, made in told.items():
            self.assertEqual(positive(saying), made)

    def test_same_truth_and_no_not_inside(self):
        for saying, days, lists in drawn_cases(26, 250):
            truth = slow.holds(saying, days, lists)
            for call, due in ((pushed, truth), (contrary, not truth), (positive, truth)):
                made = call(saying) if raised(lambda: call(saying)) is None else None
                if made is not None:
                    self.assertIs(slow.holds(made, days, lists), due)
                    inside = [piece for piece in slow.pieces(made) if piece[0] == "not"]
                    self.assertTrue(all(piece[1][0] == "le" for piece in inside))
                    self.assertTrue(call is not positive or not inside)

    def test_pieces_given_and_made(self):
        # Pushed in, each of many parts gets a not of its own.
        wide = balanced("and", [A] * 13)
        self.assertEqual((pieces(wide), pieces(no(wide)), pieces(contrary(balanced("and", [A] * 12)))), (51, 52, 59))
        check_too_many(self, "pieces", 60, lambda: contrary(wide))
        check_too_many(self, "pieces", 60, lambda: pushed(no(wide)))
        check_too_many(self, "pieces", 60, lambda: positive(no(wide)))
        self.assertEqual(pushed(wide), wide)
        longer = ("le", ("add", 1, X), Y)
        self.assertEqual(pieces(contrary(balanced("and", [A] * 11 + [longer]))), 60)
        self.assertEqual(pieces(pushed(no(balanced("or", [A] * 11 + [longer])))), 60)
        self.assertEqual(pieces(positive(no(balanced("or", [A] * 11 + [longer])))), 60)
        check_too_many(self, "pieces", 60, lambda: contrary(balanced("and", [A] * 10 + [longer] * 2)))
        check_too_many(self, "pieces", 60, lambda: pushed(no(balanced("and", [A] * 10 + [longer] * 2))))
        check_too_many(self, "pieces", 60, lambda: positive(no(balanced("and", [A] * 10 + [longer] * 2))))
        twelve = balanced("or", [no(A)] + [A] * 11)
        self.assertEqual((pieces(twelve), pieces(no(twelve)), pieces(pushed(no(twelve)))), (48, 49, 58))
        for call in (pushed, contrary, positive):
            self.assertLessEqual(pieces(call(nots(57))), 5)
            check_too_many(self, "pieces", 60, lambda: call(nots(58)))
        # What would have 61 pieces with the not ahead of it has few enough without.
        self.assertEqual(contrary(nots(57)), A)
        self.assertEqual(contrary(no(("le", tower(28), tower(28)))), ("le", tower(28), tower(28)))
        check_too_many(self, "pieces", 60, lambda: contrary(("le", tower(29), tower(28))))
        self.assertEqual(positive(no(("le", tower(28), tower(28)))), ("le", ("add", 1, tower(28)), tower(28)))


class Ways(unittest.TestCase):
    def test_ways(self):
        told = {A: [[A]], no(A): [[no(A)]], ("or", A, B): [[A], [B]], ("and", A, B): [[A, B]],
                ("and", ("or", A, B), ("or", C, D)): [[A, C], [A, D], [B, C], [B, D]],
                ("or", ("and", A, B), C): [[A, B], [C]], no(("and", A, B)): [[no(A)], [no(B)]],
                no(("or", A, no(B))): [[no(A), B]], no(no(A)): [[A]]}
        for saying, made in told.items():
            self.assertEqual(ways(saying), made)

    def test_literals_left_out_and_ways_alike(self):
        self.assertEqual(ways(("and", A, A)), [[A]])
        self.assertEqual(ways(("and", A, ("and", no(A), A))), [[A, no(A)]])
        self.assertEqual(ways(("or", A, A)), [[A], [A]])
        self.assertEqual(ways(("and", ("or", A, B), ("or", A, B))), [[A], [A, B], [B, A], [B]])
        self.assertEqual(ways(("and", ("or", A, A), B)), [[A, B], [A, B]])

    def test_holds_if_one_way_does(self):
        for saying, days, lists in drawn_cases(27, 250):
            found = ways(saying)
            truth = any(all(slow.holds(literal, days, lists) for literal in way) for way in found)
            self.assertIs(truth, slow.holds(saying, days, lists))
            self.assertTrue(all(literal[0] == "le" or literal[0] == "not" and literal[1][0] == "le"
                                for way in found for literal in way))

    def test_many_ways(self):
        def ors(*counts):
            return balanced("and", [balanced("or", [A] * count) for count in counts])

        self.assertEqual(len(ways(ors(5, 2, 2, 3))), 60)
        self.assertEqual(len(ways(ors(2, 2, 2, 2, 2))), 32)
        check_too_many(self, "ways", 60, lambda: ways(ors(2, 2, 2, 2, 2, 2)))
        self.assertEqual(len(ways(no(balanced("or", [("and", A, B)] * 5)))), 32)
        check_too_many(self, "ways", 60, lambda: ways(no(balanced("or", [("and", A, B)] * 6))))
        self.assertEqual(len(ways(("or", ors(5, 6), ors(2)))), 32)
        self.assertEqual(len(ways(("or", ors(5, 3, 3), ors(1)))), 46)
        check_too_many(self, "ways", 60, lambda: ways(("or", ors(5, 4, 3), A)))
        self.assertEqual(len(ways(("or", A, ors(6, 6)))), 37)

    def test_pieces_ahead_of_ways(self):
        check_too_many(self, "pieces", 60, lambda: ways(balanced("and", [("or", A, A)] * 8)))
        check_too_many(self, "pieces", 60, lambda: ways(nots(58)))
        self.assertEqual(ways(nots(57)), [[no(A)]])
        # Pushed in this has more than 60 pieces, but that is not returned.
        self.assertEqual(ways(no(balanced("and", [A] * 14))), [[no(A)]] * 14)


class Plain(unittest.TestCase):
    def test_adds(self):
        told = {X: X, ("num", 3): ("num", 3), ("add", 0, X): X, ("add", 2, X): ("add", 2, X),
                ("add", 2, ("add", 3, X)): ("add", 5, X), ("add", 2, ("add", -2, X)): X,
                ("add", 2, ("num", 3)): ("num", 5), ("add", -3, ("num", 3)): ("num", 0),
                ("add", 1, ("add", 1, ("add", 1, ("num", -3)))): ("num", 0),
                ("on", "a", ("add", 1, ("add", -1, X))): ("on", "a", X),
                ("add", 1, ("by", "b", ("add", 0, ("add", 4, X)))): ("add", 1, ("by", "b", ("add", 4, X))),
                ("til", "a", ("num", 0)): ("til", "a", ("num", 0))}
        for formula, made in told.items():
            self.assertEqual(plain(formula), made)

    def test_late_and_soon(self):
        one, two = ("add", 1, X), ("add", 2, X)
        told = {("late", one, two): two, ("soon", one, two): one, ("late", two, X): two, ("soon", two, X): X,
                ("late", X, X): X, ("soon", X, X): X, ("late", X, Y): ("late", X, Y), ("soon", one, Y): ("soon", one, Y),
                ("late", ("num", 3), ("num", 5)): ("num", 5), ("soon", ("num", 3), ("num", -5)): ("num", -5),
                ("late", ("num", 0), X): ("late", ("num", 0), X), ("late", ("add", -1, X), X): X,
                ("soon", ("add", -1, X), X): ("add", -1, X),
                ("add", 3, ("late", one, two)): ("add", 5, X), ("late", ("add", 1, one), two): two,
                ("late", ("late", X, Y), ("add", 1, ("late", X, Y))): ("add", 1, ("late", X, Y)),
                ("late", ("late", X, X), ("soon", X, ("add", 0, X))): X,
                ("late", ("soon", X, Y), ("late", X, Y)): ("late", ("soon", X, Y), ("late", X, Y)),
                ("soon", ("on", "a", ("late", X, X)), ("add", -2, ("on", "a", X))): ("add", -2, ("on", "a", X))}
        for formula, made in told.items():
            self.assertEqual(plain(formula), made)

    def test_sayings(self):
        told = no(("and", ("le", ("add", 1, ("num", 2)), ("late", X, X)), no(no(("le", X, ("add", 0, X))))))
        self.assertEqual(plain(told), no(("and", ("le", ("num", 3), X), no(no(("le", X, X))))))
        self.assertEqual(plain(("or", A, A)), ("or", A, A))

    def test_facts(self):
        for saying, days, lists in drawn_cases(28, 300):
            made = plain(saying)
            self.assertIs(slow.holds(made, days, lists), slow.holds(saying, days, lists))
            self.assertLessEqual(pieces(made), pieces(saying))
            self.assertEqual(plain(made), made)
        draw = random.Random(29)
        for _ in range(300):
            formula, days, lists = drawn.formula(draw, 4, "x", "a"), drawn.days(draw), drawn.lists(draw)
            if len(slow.pieces(formula)) <= 60:
                made = plain(formula)
                self.assertEqual(slow.day_of(made, days, lists), slow.day_of(formula, days, lists))
                self.assertEqual(plain(made), made)
                for piece in slow.pieces(made):
                    self.assertFalse(piece[0] == "add" and (piece[1] == 0 or piece[2][0] in ("add", "num")))

    def test_sixty_pieces(self):
        self.assertEqual(plain(tower(59)), ("add", 59, X))
        check_too_many(self, "pieces", 60, lambda: plain(tower(60)))
        self.assertEqual(plain(nots(57)), nots(57))
        check_too_many(self, "pieces", 60, lambda: plain(nots(58)))


if __name__ == "__main__":
    unittest.main()
