"""Asks that settle a saying, partings, least lots, and what answers tell."""

import random
import unittest
from itertools import combinations

from leadrules.asks import answered, is_parting, least_lots, parting, settles, settling
from leadrules.books import Book
from leadrules.errors import InvalidAsks, InvalidSaying, InvalidServed
from leadrules.laid import laid_holds, laid_on
from leadrules.pictures import is_picture
from leadrules.sure import sureness
from leadrules.verdicts import verdict
from tests import drawn, known_books, slow, wrong
from tests.test_laid import slow_holds
from tests.test_sayings import nots
from tests.test_slack import BROKEN
from tests.wrong import check_refused, check_too_many

X, Y = ("day", "x"), ("day", "y")
EMPTY = Book([], [])
LATE = ("le", ("num", 5), ("on", "a", ("num", 3)))


def le(first, second):
    return ("le", first, second)


def on(rule, formula):
    return ("on", rule, formula)


def renamed(told, rules):
    """Rules exchanged for others, by an own walk."""
    if told[0] in ("on", "by", "til"):
        return (told[0], rules[told[1]], renamed(told[2], rules))
    return tuple(renamed(part, rules) if isinstance(part, tuple) else part for part in told)


def slow_settling(asks, saying, log, promises):
    """The settling saying, and the rows and promises of the settling book, from the words."""
    rules = {rule for rule, _ in asks} | {row[0] for row in log} | {promise[1] for promise in promises}
    rules |= {promise[2] for promise in promises if promise[0] == "quick"}
    rules |= {piece[1] for piece in slow.pieces(saying) if piece[0] in ("on", "by", "til")}
    first, second = [dict(zip(sorted(rules), letters)) for letters in ("abcd", "efgh")]
    agreements = []
    for rule, day in asks:
        one, two = on(first[rule], ("num", day)), on(second[rule], ("num", day))
        agreements.append(("and", le(one, two), le(two, one)))
    every = agreements + [renamed(saying, first)]
    whole = every[0]
    for part in every[1:]:
        whole = ("and", whole, part)
    rows = [(copy[rule], *days) for copy in (first, second) for rule, *days in log]
    copied = [(promise[0],) + tuple(copy.get(part, part) for part in promise[1:]) for copy in (first, second)
              for promise in promises]
    return ("or", ("not", whole), renamed(saying, second)), rows, copied


def is_slow_parting(pair, asks, saying, log, promises):
    """Whether two pictures are a parting, by own laid rules."""
    first, second = pair
    names = {piece[1] for piece in slow.pieces(saying) if piece[0] == "day"}
    if set(first[0]) != names or first[0] != second[0]:
        return False
    if any(slow.clash(picture[1], log, promises) is not None for picture in pair):
        return False
    served = [[slow.laid_on(picture[1], log, promises, rule, day) for rule, day in asks] for picture in pair]
    truths = [slow_holds(saying, *picture, log, promises) for picture in pair]
    return served[0] == served[1] and truths == [True, False]


def cases(seed, many, rules="ab", rows=2, promises=3, asks=3):
    """So many (draw, asks, saying, lists, log, promises) with settling sayings of few pieces."""
    found = 0
    for draw, lists, log, kept in known_books.kept_books(seed, 30 * many, rules, rows, promises):
        saying = drawn.saying(draw, draw.randint(0, 1), 2, "xy", rules)
        if draw.random() < 0.6:
            saying = told_days(draw, saying)
        menu = sorted({(draw.choice(rules), draw.randint(-4, 5)) for _ in range(draw.randint(0, asks))})
        draw.shuffle(menu)
        if found < many and len(slow.pieces(slow_settling(menu, saying, log, kept)[0])) <= 60:
            found += 1
            yield draw, menu, saying, lists, log, kept


def told_days(draw, told):
    """Days in the place of the names."""
    if told[0] == "day":
        return ("num", {"x": 1, "y": -2, "z": 3}[told[1]])
    return tuple(told_days(draw, part) if isinstance(part, tuple) else part for part in told)


class Settling(unittest.TestCase):
    def test_settling(self):
        one, two = on("a", ("num", 7)), on("e", ("num", 7))
        saying, book = settling([("a", 7)], LATE, EMPTY)
        self.assertEqual(saying, ("or", ("not", ("and", ("and", le(one, two), le(two, one)), LATE)),
                                  le(("num", 5), on("e", ("num", 3)))))
        self.assertEqual(book, EMPTY)

    def test_no_asks(self):
        self.assertEqual(settling([], LATE, EMPTY)[0], ("or", ("not", LATE), le(("num", 5), on("e", ("num", 3)))))

    def test_rules_in_play(self):
        """Of the asks, the saying and the book; in sequence they become a, b, c, d and e, f, g, h."""
        book = Book([("h", 0, 3)], [("quick", "c", "g"), ("lead", "g", None, 4)])
        saying, both = settling([("c", 1), ("f", 2)], le(X, on("f", X)), book)
        self.assertEqual(both.log, [("d", 0, 3), ("h", 0, 3)])
        self.assertEqual(both.promises, [("lead", "c", None, 4), ("lead", "g", None, 4), ("quick", "a", "c"), ("quick", "e", "g")])
        agreements = [("and", le(on(first, day), on(second, day)), le(on(second, day), on(first, day)))
                      for first, second, day in (("a", "e", ("num", 1)), ("b", "f", ("num", 2)))]
        whole = ("and", ("and", agreements[0], agreements[1]), le(X, on("b", X)))
        self.assertEqual(saying, ("or", ("not", whole), le(X, on("f", X))))

    def test_the_sequence_of_the_asks(self):
        asks = [("a", 9), ("a", -2), ("a", 4)]
        whole = settling(asks, LATE, EMPTY)[0][1][1]
        days = []
        for _ in asks:
            whole = whole[1]
            days.append(whole)
        self.assertEqual([days[2][1][1][2], days[1][2][1][1][2], days[0][2][1][1][2]], [("num", 9), ("num", -2), ("num", 4)])

    def test_slow_reckoning(self):
        for draw, asks, saying, _, log, promises in cases(430, 200, "abcd", 4, 4, 4):
            due, rows, copied = slow_settling(asks, saying, log, promises)
            self.assertEqual(settling(asks, saying, Book(log, promises)), (due, Book(rows, copied)))


class Settles(unittest.TestCase):
    def test_settles(self):
        self.assertIs(settles([("a", 3)], LATE, EMPTY), True)
        self.assertIs(settles([("a", 7)], LATE, EMPTY), False)
        self.assertIs(settles([], LATE, EMPTY), False)
        self.assertIs(settles([], LATE, Book([("a", 2, 6)], [])), True)
        # True for all, and for none.
        self.assertIs(settles([], le(X, X), EMPTY), True)
        self.assertIs(settles([], ("not", le(X, X)), EMPTY), True)
        self.assertIs(settles([], le(on("a", X), on("a", ("add", 1, X))), EMPTY), True)
        # It hangs on a day that no ask tells.
        self.assertIs(settles([("a", 3)], le(X, on("a", X)), EMPTY), False)
        # Truths are compared with the same days for the names: with them told, nothing but the rules is open.
        self.assertIs(settles([], le(X, Y), EMPTY), True)
        self.assertIs(settles([], LATE, BROKEN), True)

    def test_by_other_rules(self):
        book = Book([], [("quick", "b", "a"), ("lead", "b", 0, 0)])
        self.assertIs(settles([], le(("num", 3), on("a", ("num", 3))), book), True)
        self.assertIs(settles([("b", 3)], LATE, book), False)
        close = Book([], [("quick", "b", "a"), ("quick", "a", "b")])
        self.assertIs(settles([("b", 3)], LATE, close), True)

    def test_drawn_tables(self):
        """Two worlds that keep the book and give like answers have like truths where asks settle."""
        found = {True: 0, False: 0}
        refuted = 0
        for draw, asks, saying, lists, log, promises in cases(431, 250):
            book = Book(log, promises)
            settled = settles(asks, saying, book)
            found[settled] += 1
            told, *both = slow_settling(asks, saying, log, promises)
            self.assertIs(settled, verdict(told, Book(*both)) == "all")
            for _ in range(12):
                other = drawn.lists(draw, "ab")
                if self.keeps(other, log, promises) and all(
                        slow.on(lists[rule], day) == slow.on(other[rule], day) for rule, day in asks):
                    days = drawn.days(draw, "xy")
                    if slow.holds(saying, days, lists) != slow.holds(saying, days, other):
                        refuted += 1
                        self.assertIs(settled, False)
        self.assertTrue(min(found.values()) > 50 and refuted > 30, (found, refuted))

    def keeps(self, lists, log, promises):
        """Whether lists of days keep rows and promises, by some weeks of days."""
        for rule, asked, served in log:
            if slow.on(lists[rule], asked) != served:
                return False
        for promise in promises:
            for day in range(13):
                served = slow.on(lists[promise[1]], day)
                if promise[0] == "quick" and served > slow.on(lists[promise[2]], day):
                    return False
                if promise[0] == "lead" and not (promise[2] is None or served - day >= promise[2]):
                    return False
                if promise[0] == "lead" and not (promise[3] is None or served - day <= promise[3]):
                    return False
        return True

    def test_more_asks_settle_as_well(self):
        for draw, asks, saying, _, log, promises in cases(432, 120):
            if asks and settles(asks[1:], saying, Book(log, promises)):
                self.assertIs(settles(asks, saying, Book(log, promises)), True)


class Parting(unittest.TestCase):
    def test_judged_slowly(self):
        found = {True: 0, False: 0}
        for draw, asks, saying, _, log, promises in cases(433, 250):
            book = Book(log, promises)
            pair = parting(asks, saying, book)
            found[pair is None] += 1
            self.assertIs(pair is None, settles(asks, saying, book))
            if pair is None:
                continue
            self.assertTrue(is_slow_parting(pair, asks, saying, log, promises))
            self.assertIs(is_parting(pair, asks, saying, book), True)
            for bent in (pair[::-1], (pair[0], pair[0]), (pair[1], pair[1])):
                self.assertIs(is_parting(bent, asks, saying, book), is_slow_parting(bent, asks, saying, log, promises))
            for picture, truth in zip(pair, (True, False)):
                self.assertIs(is_picture(picture, book), True)
                self.assertIs(laid_holds(picture, book, saying), truth)
            for rule, day in asks:
                self.assertEqual(laid_on(pair[0], book, rule, day), laid_on(pair[1], book, rule, day))
        self.assertTrue(min(found.values()) > 50, found)

    def test_judged(self):
        first, second = ({}, {"a": [(3, 7), (7, 7)]}), ({}, {"a": [(3, 4), (7, 7)]})

        def judged(value, asks=(("a", 7),), saying=LATE, book=EMPTY):
            return is_parting(value, asks, saying, book)

        self.assertIs(judged((first, second)), True)
        self.assertIs(judged((first, second), []), True)
        self.assertIs(judged((first, second), [("a", 7), ("a", 3)]), False)
        self.assertIs(judged((first, second), [("b", 7)]), True)
        for value in ((second, first), (first, first), [first, second], (first,), (first, second, second), (first, None),
                      (({"x": 1}, first[1]), ({"x": 1}, second[1])), (({"x": 1}, first[1]), second)):
            self.assertIs(judged(value), False)
        # Pictures that are none of the book, or of a book that no rules keep.
        self.assertIs(judged((first, second), book=Book([("a", 4, 6)], [])), False)
        self.assertIs(judged((first, second), book=BROKEN), False)
        for value in wrong.ANYTHING:
            self.assertIs(judged(value), False)
            self.assertIs(judged((first, value)), False)

    def test_days_of_the_names_of_the_saying(self):
        saying = le(X, on("a", X))
        for days, due in (({"x": 3}, True), ({}, False), ({"x": 3, "y": 4}, False), ({"y": 3}, False)):
            pair = ((days, {"a": [(3, 3)]}), (dict(days), {"a": [(3, 2)]}))
            self.assertIs(is_parting(pair, [], saying, EMPTY), due)
        self.assertIs(is_parting((({"x": 3}, {"a": [(3, 3)]}), ({"x": 4}, {"a": [(4, 2)]})), [], saying, EMPTY), False)
        self.assertEqual(sorted(parting([], saying, EMPTY)[0][0]), ["x"])
        # In whatever sequence the names stand.
        both = le(on("a", X), on("a", Y))
        for first, second in (({"y": 0, "x": 1}, {"x": 1, "y": 0}), ({"x": 1, "y": 0}, {"y": 0, "x": 1})):
            pair = ((first, {"a": [(0, 3), (1, 3)]}), (second, {"a": [(0, 2), (1, 3)]}))
            self.assertIs(is_parting(pair, [("a", 1)], both, EMPTY), True)

    def test_rules_have_their_own_names_again(self):
        book = Book([("h", 0, 3)], [("quick", "g", "h")])
        pair = parting([("f", 2)], le(("num", 3), on("g", ("num", 0))), book)
        self.assertTrue(is_slow_parting(pair, [("f", 2)], le(("num", 3), on("g", ("num", 0))), book.log, book.promises))
        self.assertTrue(all(set(picture[1]) <= set("fgh") for picture in pair))


class LeastLots(unittest.TestCase):
    def test_least_lots(self):
        self.assertEqual(least_lots([("a", 3), ("a", 7)], LATE, EMPTY), [[("a", 3)]])
        self.assertEqual(least_lots([("a", 7)], LATE, EMPTY), [])
        self.assertEqual(least_lots([], LATE, EMPTY), [])
        self.assertEqual(least_lots([], le(X, X), EMPTY), [[]])
        self.assertEqual(least_lots([("b", 1), ("a", 3)], le(X, X), EMPTY), [[]])

    def test_several(self):
        """Either of two asks, or both together."""
        same = Book([], [("quick", "b", "a"), ("quick", "a", "b")])
        self.assertEqual(least_lots([("b", 3), ("a", 3), ("a", 9)], LATE, same), [[("a", 3)], [("b", 3)]])
        both = le(on("a", ("num", 3)), on("b", ("num", 3)))
        self.assertEqual(least_lots([("b", 3), ("a", 3), ("a", 9)], both, EMPTY), [[("a", 3), ("b", 3)]])

    def test_all_lots(self):
        found = {}
        for draw, menu, saying, _, log, promises in cases(434, 150):
            book = Book(log, promises)
            told = [list(lot) for many in range(len(menu) + 1) for lot in combinations(sorted(menu), many)
                    if settles(list(lot), saying, book)]
            due = sorted(lot for lot in told if not any(set(other) < set(lot) for other in told))
            draw.shuffle(menu)
            self.assertEqual(least_lots(menu, saying, book), due)
            found[len(due)] = found.get(len(due), 0) + 1
        self.assertTrue(found[0] > 30 and found[1] > 30, found)

    def test_the_whole_menu_is_looked_at_first(self):
        """Limits hold of the whole menu, also where none of its asks is needed."""
        for menu in ([("a", day) for day in range(5)], [("a", day) for day in range(4, -1, -1)]):
            check_too_many(self, "asks", 4, lambda: least_lots(menu, le(X, X), EMPTY))
        check_too_many(self, "rules", 4, lambda: least_lots([("a", 1), ("b", 1), ("c", 1)], le(on("d", X), on("e", X)), EMPTY))


class Answered(unittest.TestCase):
    ASKS = [("a", 3), ("b", 1)]

    def test_answered(self):
        both = le(on("a", ("num", 3)), on("b", ("num", 1)))
        self.assertEqual([answered(self.ASKS, served, both, EMPTY) for served in ([4, 9], [4, 4], [5, 4])],
                         ["holds", "holds", "fails"])
        self.assertEqual(answered([("a", 3)], [9], both, EMPTY), "open")
        self.assertEqual(answered([], [], both, EMPTY), "open")
        self.assertEqual(answered([], [], le(X, X), EMPTY), "holds")
        self.assertEqual(answered([("a", 2)], [6], LATE, EMPTY), "holds")
        self.assertEqual(answered([("a", 9)], [4], LATE, EMPTY), "fails")
        self.assertEqual(answered([("a", 9)], [5], LATE, EMPTY), "open")

    def test_broken_then(self):
        book = Book([("a", 5, 5)], [("quick", "b", "a")])
        self.assertEqual([answered([("a", 3)], [served], LATE, book) for served in (4, 5, 6)], ["fails", "holds", "broken"])
        self.assertEqual(answered([("a", 5)], [5], LATE, book), "open")
        self.assertEqual(answered([("a", 5)], [4], LATE, book), "broken")
        self.assertEqual(answered([("b", 5)], [6], LATE, book), "broken")
        self.assertEqual(answered([], [], LATE, BROKEN), "broken")
        self.assertEqual(answered([("a", 3), ("a", 4)], [7, 6], LATE, EMPTY), "broken")
        # Ahead of TooMany for pieces.
        self.assertEqual(answered([], [], nots(70), BROKEN), "broken")
        check_too_many(self, "pieces", 60, lambda: answered([], [], nots(57), EMPTY))
        self.assertIn(answered([], [], nots(56), EMPTY), ("holds", "fails", "open"))

    def test_room(self):
        full = Book([("c", day, day) for day in range(24)], [])
        check_too_many(self, "rows", 24, lambda: answered([("a", 3)], [7], nots(70), full))
        self.assertEqual(answered([("c", 3)], [3], LATE, full), "open")
        nearly = Book([("c", day, day) for day in range(23)], [])
        self.assertEqual(answered([("a", 3)], [7], LATE, nearly), "holds")
        check_too_many(self, "rows", 24, lambda: answered(self.ASKS, [7, 8], LATE, nearly))
        check_too_many(self, "asks", 4, lambda: answered([("a", day) for day in range(5)], [1] * 5, nots(70), full))

    def test_no_limits_of_settling(self):
        """No settling saying is made: more rules, rows and promises may be there."""
        book = Book([("c", day, day) for day in range(13)] + [("d", 0, 0), ("e", 0, 0)],
                    [("lead", rule, 0, 99) for rule in "abcdefg"])
        self.assertEqual(answered([("a", 3)], [7], LATE, book), "holds")

    def test_slow_reckoning(self):
        found = {}
        for draw, asks, saying, lists, log, promises in cases(435, 400):
            served = [slow.on(lists[rule], day) + draw.choice((0, 0, 1, 2)) for rule, day in asks]
            rows = log + [(rule, day, answer) for (rule, day), answer in zip(asks, served)]
            due = "broken"
            if slow.clash({}, rows, promises) is None:
                state = sureness(saying, Book(rows, promises), {})
                due = {"sure": "holds", "never": "fails", "maybe": "open"}[state]
            found[due] = found.get(due, 0) + 1
            self.assertEqual(answered(asks, served, saying, Book(log, promises)), due)
            if settles(asks, saying, Book(log, promises)) and not any(p[0] == "day" for p in slow.pieces(saying)):
                self.assertNotEqual(due, "open")
        self.assertTrue(len(found) == 4 and min(found.values()) > 10, found)

    def test_refused(self):
        for value in wrong.NOT_ASKS:
            check_refused(self, InvalidAsks, value, lambda: answered(value, None, None, EMPTY))
        for value in wrong.NOT_SERVED:
            check_refused(self, InvalidServed, value, lambda: answered(self.ASKS, value, None, EMPTY))
        check_refused(self, InvalidServed, served := [1] * 4, lambda: answered([("a", day) for day in range(5)], served, None, EMPTY))
        for value in wrong.NOT_SAYINGS:
            check_refused(self, InvalidSaying, value, lambda: answered([("a", day) for day in range(5)], [1] * 5, value, EMPTY))


class Refused(unittest.TestCase):
    def calls(self):
        return [settling, settles, parting, least_lots, lambda *told: is_parting(None, *told)]

    def test_values(self):
        for call in self.calls():
            for value in wrong.NOT_ASKS:
                check_refused(self, InvalidAsks, value, lambda: call(value, None, EMPTY))
            for value in wrong.NOT_SAYINGS:
                check_refused(self, InvalidSaying, value, lambda: call([("a", day) for day in range(5)], value, EMPTY))

    def test_limits_in_their_sequence(self):
        rows, promises = [("a", day, day) for day in range(13)], [("lead", "a", 0, most) for most in range(20, 27)]
        rules = [("lead", rule, 0, None) for rule in "bcde"]
        five = [("a", day) for day in range(5)]
        for call in self.calls():
            check_too_many(self, "asks", 4, lambda: call(five, nots(70), Book(rows, promises + rules)))
            check_too_many(self, "rules", 4, lambda: call(five[:4], nots(70), Book(rows, promises + rules)))
            check_too_many(self, "rows", 12, lambda: call(five[:4], nots(70), Book(rows, promises)))
            check_too_many(self, "promises", 6, lambda: call(five[:4], nots(70), Book(rows[:12], promises)))
            check_too_many(self, "pieces", 60, lambda: call(five[:4], nots(70), Book(rows[:12], promises[:6])))
            call(five[:4], le(on("a", ("num", 2)), on("b", ("num", 1))), Book(rows[:12], promises[:5] + rules[:1]))

    def test_rules_in_play(self):
        """Four from the asks, the saying and the book together; five are too many, wherever they stand."""
        for asks, saying, book in (
                ([("a", 1), ("b", 1), ("c", 1), ("d", 1)], LATE, EMPTY),
                ([], ("and", le(on("a", X), on("b", X)), le(on("c", X), on("d", X))), EMPTY),
                ([("d", 2)], LATE, Book([("b", 0, 0)], [("lead", "c", 0, 1)])), ([], le(X, X), Book([], [
                    ("quick", "a", "b"), ("quick", "g", "h")]))):
            for call in self.calls():
                call(asks, saying, book)
                check_too_many(self, "rules", 4, lambda: call(asks, saying, book.with_row(("e", 0, 0))))
                check_too_many(self, "rules", 4, lambda: call(asks, ("and", saying, le(on("e", X), X)), book))

    def test_pieces_of_the_settling_saying(self):
        """Of a saying of n pieces and asks: 2 n + 2 pieces, 11 of each agreement, and an and that joins it."""
        for many, most in ((0, 29), (1, 23), (2, 17), (3, 11), (4, 5)):
            asks = [("a", day) for day in range(many)]
            for call in self.calls():
                call(asks, nots(most - 3), EMPTY)
                check_too_many(self, "pieces", 60, lambda: call(asks, nots(most - 2), EMPTY))


if __name__ == "__main__":
    unittest.main()
