"""Formulas turned down and up, and sayings freed."""

import random
import unittest

from leadrules.errors import NoTurn
from leadrules.sayings import pieces
from leadrules.turning import freed, turned_down, turned_up
from tests import drawn, slow
from tests.test_formulas import balanced, tower
from tests.test_sayings import drawn_cases
from tests.wrong import check_refused, check_too_many, raised

X, Y, Z = ("day", "x"), ("day", "y"), ("day", "z")


class Turned(unittest.TestCase):
    def test_down(self):
        told = {X: Y, ("on", "a", X): ("til", "a", Y), ("by", "a", X): ("on", "a", Y),
                ("til", "a", X): ("add", -1, ("on", "a", ("add", 1, Y))), ("add", 3, X): ("add", -3, Y),
                ("add", 0, X): ("add", 0, Y), ("late", X, ("on", "a", X)): ("soon", Y, ("til", "a", Y)),
                ("soon", X, ("add", -2, X)): ("late", Y, ("add", 2, Y)),
                ("on", "b", ("late", ("on", "a", X), X)): ("soon", ("til", "a", ("til", "b", Y)), ("til", "b", Y)),
                ("til", "b", ("by", "a", X)): ("on", "a", ("add", -1, ("on", "b", ("add", 1, Y))))}
        for formula, made in told.items():
            self.assertEqual(turned_down(formula, "y"), made)

    def test_up(self):
        told = {X: Y, ("on", "a", X): ("by", "a", Y), ("til", "a", X): ("on", "a", Y),
                ("by", "a", X): ("add", 1, ("on", "a", ("add", -1, Y))), ("add", 3, X): ("add", -3, Y),
                ("late", X, ("on", "a", X)): ("soon", Y, ("by", "a", Y)),
                ("soon", X, ("add", -2, X)): ("late", Y, ("add", 2, Y)),
                ("on", "b", ("soon", ("on", "a", X), X)): ("late", ("by", "a", ("by", "b", Y)), ("by", "b", Y)),
                ("by", "b", ("til", "a", X)): ("on", "a", ("add", 1, ("on", "b", ("add", -1, Y))))}
        for formula, made in told.items():
            self.assertEqual(turned_up(formula, "y"), made)

    def test_the_told_name_may_be_the_formulas_own(self):
        self.assertEqual(turned_down(("on", "a", X), "x"), ("til", "a", X))
        self.assertEqual(turned_up(("on", "a", X), "x"), ("by", "a", X))

    def test_going_from_day_to_day(self):
        draw = random.Random(31)
        for _ in range(80):
            formula = drawn.formula(draw, 3, "x", "ab", "days")
            down = raised(lambda: turned_down(formula, "y")) is None
            up = raised(lambda: turned_up(formula, "y")) is None
            lists = drawn.lists(draw, "ab", 3)
            last = slow.day_of(turned_down(formula, "y"), {"y": 2}, lists) if down else None
            first = slow.day_of(turned_up(formula, "y"), {"y": 2}, lists) if up else None
            for at in range(-40, 41):
                day = slow.day_of(formula, {"x": at}, lists)
                self.assertTrue(not down or (day <= 2) == (at <= last))
                self.assertTrue(not up or (2 <= day) == (first <= at))

    def test_turned_back(self):
        draw = random.Random(32)
        for _ in range(60):
            formula = drawn.formula(draw, 2, "x", "ab", "days")
            back = turned_up(turned_down(formula, "y"), "x")
            front = turned_down(turned_up(formula, "y"), "x")
            for _ in range(3):
                days, lists = drawn.days(draw), drawn.lists(draw)
                self.assertEqual(slow.day_of(back, days, lists), slow.day_of(formula, days, lists))
                self.assertEqual(slow.day_of(front, days, lists), slow.day_of(formula, days, lists))

    def test_the_last_day_to_ask_one_rule_behind_another(self):
        last = turned_down(("on", "b", ("on", "a", X)), "y")
        self.assertEqual(last, ("til", "a", ("til", "b", Y)))
        draw = random.Random(34)
        for _ in range(40):
            lists, day = drawn.lists(draw), draw.randint(-6, 6)
            asked = slow.day_of(last, {"y": day}, lists)
            served = [slow.on(lists["b"], slow.on(lists["a"], at)) for at in (asked, asked + 1)]
            self.assertTrue(served[0] <= day < served[1])

    def test_what_has_no_turn(self):
        for call in (turned_down, turned_up):
            for told in (("num", 3), ("late", X, Y), ("on", "a", ("num", 3)), ("late", X, ("num", 0)),
                         ("soon", ("num", 0), X), ("add", 1, ("soon", X, ("on", "a", Y)))):
                check_refused(self, NoTurn, told, lambda: call(told, "y"))
            long = balanced("late", [X] * 30 + [Y])
            check_refused(self, NoTurn, long, lambda: call(long, "y"))

    def test_pieces_given_and_made(self):
        for call, word in ((turned_down, "til"), (turned_up, "by")):
            self.assertEqual(pieces(call(tower(59), "y")), 60)
            check_too_many(self, "pieces", 60, lambda: call(tower(60), "y"))
            chain = X
            for _ in range(19):
                chain = (word, "a", chain)
            self.assertEqual(pieces(call(chain, "y")), 58)
            self.assertEqual(pieces(call(tower(2, chain), "y")), 60)
            check_too_many(self, "pieces", 60, lambda: call(tower(3, chain), "y"))
            check_too_many(self, "pieces", 60, lambda: call((word, "a", chain), "y"))


class Freed(unittest.TestCase):
    def test_first_side(self):
        three = ("num", 3)
        told = {("le", X, three): ("le", X, three), ("le", ("on", "a", X), Y): ("le", X, ("til", "a", Y)),
                ("le", ("by", "a", X), Y): ("le", X, ("on", "a", Y)),
                ("le", ("til", "a", X), Y): ("le", X, ("add", -1, ("on", "a", ("add", 1, Y)))),
                ("le", ("add", 2, X), Y): ("le", X, ("add", -2, Y)),
                ("le", ("late", X, ("on", "a", X)), Y): ("and", ("le", X, Y), ("le", X, ("til", "a", Y))),
                ("le", ("soon", X, ("on", "a", X)), Y): ("or", ("le", X, Y), ("le", X, ("til", "a", Y))),
                ("le", ("on", "a", ("late", X, ("on", "b", Z))), Y):
                    ("and", ("le", X, ("til", "a", Y)), ("le", ("on", "b", Z), ("til", "a", Y))),
                ("le", ("soon", ("late", Y, Z), X), three): ("or", ("le", ("late", Y, Z), three), ("le", X, three))}
        for saying, made in told.items():
            self.assertEqual(freed(saying, "x"), made)

    def test_second_side(self):
        told = {("le", Y, X): ("le", Y, X), ("le", Y, ("on", "a", X)): ("le", ("by", "a", Y), X),
                ("le", Y, ("til", "a", X)): ("le", ("on", "a", Y), X),
                ("le", Y, ("by", "a", X)): ("le", ("add", 1, ("on", "a", ("add", -1, Y))), X),
                ("le", Y, ("add", -2, X)): ("le", ("add", 2, Y), X),
                ("le", Y, ("late", X, ("on", "a", X))): ("or", ("le", Y, X), ("le", ("by", "a", Y), X)),
                ("le", Y, ("soon", X, ("on", "a", X))): ("and", ("le", Y, X), ("le", ("by", "a", Y), X)),
                ("le", Y, ("on", "a", ("soon", X, ("on", "b", Z)))):
                    ("and", ("le", ("by", "a", Y), X), ("le", ("by", "a", Y), ("on", "b", Z)))}
        for saying, made in told.items():
            self.assertEqual(freed(saying, "x"), made)

    def test_all_else_stays(self):
        le = ("le", ("on", "a", X), Y)
        self.assertEqual(freed(le, "z"), le)
        other = ("le", ("on", "a", ("late", Y, Z)), ("on", "a", Y))
        self.assertEqual(freed(("or", other, ("not", ("and", le, other))), "x"),
                         ("or", other, ("not", ("and", ("le", X, ("til", "a", Y)), other))))

    def test_same_truth_and_days_alone(self):
        for saying, days, lists in drawn_cases(33, 200, 2):
            both = [piece for piece in slow.pieces(saying) if piece[0] == "le"
                    and X in slow.pieces(piece[1]) and X in slow.pieces(piece[2])]
            found = raised(lambda: freed(saying, "x"))
            if both:
                check_refused(self, NoTurn, both[0], lambda: freed(saying, "x"))
            elif found is None:
                made = freed(saying, "x")
                self.assertIs(slow.holds(made, days, lists), slow.holds(saying, days, lists))
                for piece in slow.pieces(made):
                    if piece[0] == "le":
                        self.assertTrue(all(side == X or X not in slow.pieces(side) for side in piece[1:]))
            else:
                self.assertEqual(found.__class__.__name__, "TooMany")

    def test_both_sides_that_read_the_name(self):
        first, second = ("le", X, ("on", "a", X)), ("le", ("add", 1, X), X)
        told = ("or", ("le", X, Y), ("not", ("and", first, second)))
        check_refused(self, NoTurn, told[2][1][1], lambda: freed(told, "x"))
        check_refused(self, NoTurn, second, lambda: freed(("and", second, first), "x"))
        self.assertEqual(freed(told, "y"), told)

    def test_pieces_given_and_made(self):
        self.assertEqual(pieces(freed(("le", tower(30), tower(27, Y)), "x")), 60)
        check_too_many(self, "pieces", 60, lambda: freed(("le", tower(30), tower(28, Y)), "x"))
        wide = balanced("late", [X] * 4)
        self.assertEqual(pieces(freed(("le", wide, tower(11, Y)), "x")), 59)
        check_too_many(self, "pieces", 60, lambda: freed(("le", wide, tower(12, Y)), "x"))
        long = ("le", tower(30), tower(30))
        check_refused(self, NoTurn, long, lambda: freed(long, "x"))


if __name__ == "__main__":
    unittest.main()
