"""The verdict, and pictures that break sayings."""

import random
import time
import unittest

from leadrules.books import Book
from leadrules.formulas import rows_of, woven
from leadrules.laid import is_break
from leadrules.pictures import is_picture
from leadrules.sayings import contrary, plain, positive, pushed
from leadrules.trees import is_tree, tree
from leadrules.turning import freed, turned_down, turned_up
from leadrules.verdicts import broken, verdict
from tests import drawn, known_books, slow, slowtrees
from tests.test_bounds import many_les
from tests.test_laid import slow_holds
from tests.test_sayings import nots
from tests.test_trees import drawn_sayings, true_sayings
from tests.wrong import check_too_many

X, Y = ("day", "x"), ("day", "y")
ZERO = ("num", 0)
EMPTY = Book([], [])


def le(first, second):
    return ("le", first, second)


def same(first, second):
    """Both sayings hold in the same cases, told as a saying."""
    return ("or", ("and", first, second), ("and", ("not", first), ("not", second)))


def on(rule, formula):
    return ("on", rule, formula)


class Verdicts(unittest.TestCase):
    def check_all(self, saying, book=EMPTY):
        self.assertEqual(verdict(saying, book), "all", saying)
        self.assertIsNone(broken(saying, book))

    def check_breaks(self, saying, book=EMPTY):
        self.assertEqual(verdict(saying, book), "breaks", saying)
        self.assertIs(is_break(broken(saying, book), saying, book), True)

    def test_order_is_kept(self):
        self.check_all(le(on("a", X), on("a", ("add", 1, X))))
        self.check_breaks(le(on("a", X), X))
        self.check_breaks(le(on("a", ("add", 1, X)), on("a", X)))
        self.check_all(("or", ("not", le(X, Y)), le(on("a", X), on("a", Y))))

    def test_two_rules_do_not_change_places(self):
        self.check_breaks(le(on("a", on("b", X)), on("b", on("a", X))))
        self.assertEqual(len(broken(le(on("a", on("b", X)), on("b", on("a", X))), EMPTY)[1]), 2)

    def test_the_last_day_to_ask(self):
        """Whatever a and b are, asking on it is in time, and a day later is not."""
        last = ("til", "a", ("til", "b", Y))
        self.check_all(le(on("b", on("a", last)), Y))
        self.check_all(("not", le(on("b", on("a", ("add", 1, last))), Y)))
        self.check_breaks(le(on("b", on("a", ("add", 1, last))), Y))

    def test_literals_alone(self):
        self.check_all(le(X, X))
        self.check_breaks(le(X, Y))
        self.check_all(le(ZERO, ("num", 1)))
        self.check_breaks(("not", le(X, X)))
        self.check_breaks(le(("num", 1), ZERO))

    def test_books(self):
        rows = Book([("a", 0, 4), ("a", 5, 9)], [])
        self.check_all(le(on("a", ("num", 3)), ("num", 9)), rows)
        self.check_breaks(le(on("a", ("num", 3)), ("num", 8)), rows)
        leads = Book([], [("lead", "b", 1, 3), ("quick", "b", "a")])
        self.check_all(le(("add", 1, X), on("a", X)), leads)
        self.check_breaks(le(on("a", X), ("add", 3, X)), leads)
        self.check_all(le(on("b", X), on("a", ("add", 1, X))), leads)
        self.check_breaks(le(on("a", X), on("b", ("add", 1, X))), leads)

    def test_ands_within_ors(self):
        """Of each or that waits, both parts are ands: one part of each is so on the least days, never a whole one."""
        apart = [("or", le(("add", 1, first), second), le(second, first)) for first, second in (
            (X, Y), (Y, X), (on("a", X), on("a", Y)), (X, on("b", X)), (ZERO, Y))]
        for first in apart:
            for second in apart:
                self.check_all(("and", first, second))
                self.check_breaks(("and", first, ("or", second[1], le(("add", 1, second[2][1]), second[2][2]))))

    def test_pictures_keep_their_keys_sorted(self):
        for first in "zxpqy":
            for rule in "hgcab":
                told = on(rule, on("d", ("late", ("day", first), on("b", ("day", "s")))))
                picture = broken(le(told, ("day", "q")), EMPTY)
                for keys in map(list, picture):
                    self.assertEqual(keys, sorted(keys))
                for served in picture[1].values():
                    self.assertEqual(served, sorted(served))

    def test_no_rules_keep_the_book(self):
        for book in (Book([("a", 0, 1), ("a", 0, 2)], []), Book([], [("lead", "a", 3, 2)]),
                     Book([("a", 0, 1), ("b", 1, 0)], [("quick", "a", "b")]),
                     Book([("a", 0, 9)], [("lead", "a", 0, 8)])):
            for saying in (le(("num", 1), ZERO), ("not", le(X, X)), le(X, Y), le(on("a", X), on("h", Y))):
                self.check_all(saying, book)

    def test_sayings_with_many_pieces(self):
        self.check_breaks(nots(57))
        self.check_breaks(many_les(15))
        for call in (verdict, broken):
            check_too_many(self, "pieces", 60, lambda: call(nots(58), EMPTY))


class BothNever(unittest.TestCase):
    def test_exactly_one(self):
        """A tree or a picture, each judged slowly, never both; and the verdict with it."""
        found = {"all": 0, "breaks": 0}
        for saying, log, promises in drawn_sayings(140, 500):
            book = Book(log, promises)
            paper, picture = tree(saying, book), broken(saying, book)
            self.assertIsNot(paper is None, picture is None)
            found[verdict(saying, book)] += 1
            if picture is None:
                self.assertEqual(verdict(saying, book), "all")
                self.assertTrue(slowtrees.Judge(saying, log, promises).is_tree(paper))
            else:
                self.assertEqual(verdict(saying, book), "breaks")
                self.assertIsNone(slow.clash(picture[1], log, promises))
                self.assertFalse(slow_holds(saying, *picture, log, promises))
                self.assertIs(is_picture(picture, book) and is_break(picture, saying, book), True)
        self.assertTrue(min(found.values()) > 100, found)

    def test_all_orders(self):
        """By going through all orders of the asked days, and all ways of the others."""
        found = {"all": 0, "breaks": 0}
        for saying, log, promises in list(drawn_sayings(141, 250, rows=2, promises=2)) + list(true_sayings(142, 80, 1)):
            judge = slowtrees.Judge(saying, log, promises)
            if len(judge.places) <= 5 and len(judge.waiting) <= 2:
                due = judge.verdict()
                found[due] += 1
                self.assertEqual(verdict(saying, Book(log, promises)), due, (saying, log, promises))
        self.assertTrue(min(found.values()) > 60, found)

    def test_hidden_tables(self):
        """What holds for all holds for drawn Tables that keep the book, on drawn days."""
        held = 0
        for draw, lists, log, promises in known_books.kept_books(143, 250, "ab", 4, 4):
            saying = drawn.saying(draw, draw.randint(0, 2), 2, "xy")
            if known_books.pieces(saying) <= 60:
                truths = [slow.holds(saying, drawn.days(draw, "xy"), lists) for _ in range(12)]
                if verdict(saying, Book(log, promises)) == "all":
                    held += 1
                    self.assertTrue(all(truths))
                elif not all(truths):
                    self.assertIsNone(tree(saying, Book(log, promises)))
        self.assertGreater(held, 15)

    def test_true_sayings(self):
        for saying, log, promises in true_sayings(144, 200):
            self.assertEqual(verdict(saying, Book(log, promises)), "all", saying)

    def test_more_rows_and_promises_never_break(self):
        for draw, lists, log, promises in known_books.kept_books(145, 80):
            saying = drawn.saying(draw, 1, 2, "xy")
            more = Book(log, promises)
            if verdict(saying, Book(log[1:], promises[1:])) == "all":
                self.assertEqual(verdict(saying, more), "all")


class Facts(unittest.TestCase):
    """The facts of the stages ahead, as sayings that hold for all."""

    def check(self, saying):
        if known_books.pieces(saying) <= 60:
            self.assertEqual(verdict(saying, EMPTY), "all", saying)
            return 1
        return 0

    def test_other_ways_to_write_a_saying(self):
        draw = random.Random(146)
        checked = 0
        for _ in range(120):
            saying = drawn.saying(draw, 2, 1, "xy")
            for change in (pushed, positive, plain):
                checked += self.check(same(saying, change(saying)))
            checked += self.check(same(("not", saying), contrary(saying)))
        self.assertGreater(checked, 150)

    def test_turned(self):
        draw = random.Random(147)
        checked = 0
        for _ in range(100):
            told = drawn.formula(draw, 3, "x", "ab", "days")
            if known_books.pieces(told) > 12:
                continue
            down, up = turned_down(told, "y"), turned_up(told, "y")
            checked += self.check(same(le(told, Y), le(X, down))) + self.check(same(le(Y, told), le(up, X)))
            back = turned_up(down, "x")
            checked += self.check(("and", le(told, back), le(back, told)))
        self.assertGreater(checked, 150)

    def test_freed(self):
        draw = random.Random(148)
        checked = 0
        for _ in range(80):
            saying = le(drawn.formula(draw, 2, "xz"), drawn.formula(draw, 2, "yz"))
            checked += self.check(same(saying, freed(saying, "x"))) + self.check(same(saying, freed(saying, "y")))
        self.assertGreater(checked, 80)

    def test_woven(self):
        draw = random.Random(149)
        checked = 0
        for _ in range(80):
            told = drawn.formula(draw, 3, "xy")
            if known_books.pieces(told) <= 12:
                other = woven(rows_of(told))
                checked += self.check(("and", le(told, other), le(other, told)))
        self.assertGreater(checked, 40)


class Limits(unittest.TestCase):
    """Where TooMany("nodes", 4000) may never come."""

    def count(self, saying, log):
        """How many places, and how many late, soon and or that waits at the most."""
        judge = slowtrees.Judge(saying, log, [])
        ends = [formula for formula in judge.own if formula[0] in ("late", "soon")]
        ors = [piece for piece in slow.pieces(slowtrees.contrary(saying)) if piece[0] == "or"]
        return len(judge.places), len(ends) + len(ors)

    def test_few_places_and_ends(self):
        draw = random.Random(150)
        checked = 0
        while checked < 600:
            log = [drawn.row(draw, "abc") for _ in range(draw.randint(0, 3))]
            promises = [drawn.promise(draw, "abc") for _ in range(draw.randint(0, 5))]
            saying = drawn.saying(draw, draw.randint(0, 2), 2, "xy", "abc")
            places, ends = self.count(saying, log)
            if places <= 4 and ends <= 1 or places <= 2 and ends <= 2:
                checked += 1
                book = Book(log, promises)
                paper, picture = tree(saying, book), broken(saying, book)
                self.assertTrue(is_tree(paper, saying, book) if picture is None else is_break(picture, saying, book))

    def test_four_places_that_hang_together(self):
        rules = "abcd"
        around = [("quick", rules[at - 1], rules[at]) for at in range(4)]
        names = ("day", "p"), ("day", "q"), ("day", "r"), ("day", "s")
        served = [on(rule, name) for rule, name in zip(rules, names)]
        for promises in ([], around, around[:3], [("lead", "a", -2, 2)] + around):
            for book in (Book([], promises), Book([("a", 0, 1)], promises)):
                for saying in (le(("late", served[0], served[1]), ("add", 3, served[2])),
                               ("and", le(served[0], served[3]), le(served[1], served[2])),
                               le(on("a", on("b", on("c", on("d", X)))), X),
                               le(on("a", on("a", on("a", on("a", X)))), X)):
                    self.assertIn(verdict(saying, book), ("all", "breaks"))

    def test_full_books(self):
        """Twenty-four rows and twelve promises are no trouble where one thing is asked."""
        log = [(rule, 4 * day, 4 * day + more) for rule, more in (("a", 1), ("b", 3)) for day in range(12)]
        promises = [("lead", rule, 0, 9) for rule in "abcdef"] + [("quick", "a", rule) for rule in "bcdefg"]
        book = Book(log, promises)
        self.assertEqual((len(book.log), len(book.promises)), (24, 12))
        self.assertEqual(verdict(le(on("a", X), ("add", 8, on("b", X))), book), "all")
        self.assertEqual(verdict(le(on("b", X), ("add", 1, on("a", X))), book), "breaks")
        both = [on("b", on("a", on("g", told))) for told in (X, ("add", 1, X))]
        self.assertEqual(verdict(le(*both), book), "all")

    def test_many_that_are_late_and_soon(self):
        """Sayings of many late, soon and ors come to their end, however it is."""
        draw = random.Random(151)
        started = time.monotonic()
        for _ in range(60):
            saying = drawn.saying(draw, 4, 4, "xyz", "abc")
            if known_books.pieces(saying) <= 60:
                self.assertIn(verdict(saying, EMPTY), ("all", "breaks"))
        self.assertLess(time.monotonic() - started, 60)


if __name__ == "__main__":
    unittest.main()
