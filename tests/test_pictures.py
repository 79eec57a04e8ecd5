"""Pictures: their form, clashes and places, joined ones, and those of worlds."""

import random
import unittest

from leadrules.books import Book
from leadrules.errors import InvalidPicture, MissingName, MissingRule
from leadrules.laid import laid_holds, laid_value
from leadrules.pictures import agrees, asks_of, clash, is_picture, joined_pictures, keeps, picture_of, places
from leadrules.tables import Table
from tests import drawn, slow, wrong
from tests.test_beneath import keeps_slowly, quick
from tests.test_formulas import tower
from tests.test_sayings import nots
from tests.wrong import check_missing, check_refused, check_too_many

X, Y = ("day", "x"), ("day", "y")
EMPTY = Book([], [])


def drawn_book(draw, rules, rows=3, promises=4):
    return ([drawn.row(draw, rules) for _ in range(draw.randint(0, rows))],
            [drawn.promise(draw, rules) for _ in range(draw.randint(0, promises))])


class Form(unittest.TestCase):
    def test_forms(self):
        for value in (({}, {}), ({"x": 0, "z": -10 ** 12}, {}), ({}, {"a": []}), ({}, {"a": ()}),
                      ({}, {"h": [(0, 3), (1, 3), (2, 5)]}), ({}, {"a": ((0, 0), (5, 5)), "b": [(-1, 10 ** 12)]})):
            self.assertIs(is_picture(value, EMPTY), True)
            self.assertIsNone(clash(value, EMPTY))
        for value in wrong.NOT_PICTURES:
            self.assertIs(is_picture(value, EMPTY), False)
            check_refused(self, InvalidPicture, value, lambda: clash(value, EMPTY))

    def test_asked_days_rise(self):
        for asked in ([0, 0], [1, 0], [0, 1, 1], [0, 2, 1]):
            value = ({}, {"a": [(day, 5) for day in asked]})
            self.assertIs(is_picture(value, EMPTY), False)
            check_refused(self, InvalidPicture, value, lambda: clash(value, EMPTY))


class Clashes(unittest.TestCase):
    def test_torn_first(self):
        book = Book([("a", 0, 0), ("a", 0, 1)], [("lead", "c", 5, 3), ("lead", "b", 4, 2), ("lead", "a", 9, None)])
        self.assertEqual(clash(({}, {"a": [(0, 5)]}), book), ("torn", "b"))
        self.assertEqual(clash(({}, {}), book), ("torn", "b"))
        self.assertIs(is_picture(({}, {}), book), False)

    def test_lead_ahead_of_pair(self):
        book = Book([("a", 0, 1), ("a", 0, 2)], [("lead", "b", 1, 3)])
        self.assertEqual(clash(({}, {"b": [(0, 4)]}), book), ("lead", "b", 0, 4))
        self.assertEqual(clash(({}, {"b": [(0, 3)]}), book), ("pair", "a", 0, 2, "a", 0, 1))

    def test_leads(self):
        book = Book([("b", 9, 11)], quick("ab") + [("lead", "a", 1, None), ("lead", "b", None, 3)])
        self.assertIsNone(clash(({}, {"a": [(0, 1), (2, 5)], "b": [(5, 6), (6, 9)]}), book))
        self.assertEqual(clash(({}, {"a": [(0, 0)]}), book), ("lead", "a", 0, 0))
        self.assertEqual(clash(({}, {"a": [(0, 4)]}), book), ("lead", "a", 0, 4))
        self.assertEqual(clash(({}, {"b": [(0, 0)]}), book), ("lead", "b", 0, 0))
        self.assertEqual(clash(({}, {"b": [(0, 4)], "a": [(1, 9)]}), book), ("lead", "a", 1, 9))
        self.assertEqual(clash(({}, {"b": [(1, 1), (2, 9)]}), book), ("lead", "b", 1, 1))
        self.assertEqual(clash(({}, {}), book.with_row(("b", 9, 13))), ("lead", "b", 9, 13))
        self.assertEqual(clash(({}, {"b": [(9, 8)]}), book.with_row(("b", 9, 13))), ("lead", "b", 9, 8))

    def test_pairs_of_one_rule(self):
        self.assertEqual(clash(({}, {"a": [(0, 5), (1, 4)]}), EMPTY), ("pair", "a", 0, 5, "a", 1, 4))
        self.assertIsNone(clash(({}, {"a": [(0, 5), (1, 5)]}), EMPTY))
        self.assertEqual(clash(({}, {"b": [(0, 3), (1, 2), (2, 1)], "c": [(-1, 5), (0, 4)]}), EMPTY),
                         ("pair", "b", 0, 3, "b", 1, 2))
        # One asked day has one served day, in the log, too.
        self.assertEqual(clash(({}, {"a": [(0, 5)]}), Book([("a", 0, 4)], [])), ("pair", "a", 0, 5, "a", 0, 4))
        self.assertEqual(clash(({}, {}), Book([("a", 0, 4), ("a", 0, 5)], [])), ("pair", "a", 0, 5, "a", 0, 4))
        self.assertIsNone(clash(({}, {"a": [(0, 4)]}), Book([("a", 0, 4)], [])))

    def test_pairs_of_two_rules(self):
        book = Book([("b", 3, 5)], quick("ab", "bc"))
        self.assertEqual(clash(({}, {"a": [(3, 6)]}), book), ("pair", "a", 3, 6, "b", 3, 5))
        self.assertEqual(clash(({}, {"a": [(2, 6)], "c": [(4, 4)]}), book), ("pair", "a", 2, 6, "b", 3, 5))
        self.assertEqual(clash(({}, {"a": [(2, 5)], "c": [(4, 4)]}), book), ("pair", "a", 2, 5, "c", 4, 4))
        self.assertIsNone(clash(({}, {"a": [(4, 6), (5, 9)]}), book))
        self.assertIsNone(clash(({}, {"c": [(3, 5)]}), book))
        self.assertIsNone(clash(({}, {"c": [(2, 1)]}), book))
        self.assertEqual(clash(({}, {"c": [(3, 4)]}), book), ("pair", "b", 3, 5, "c", 3, 4))

    def test_rules_beneath_each_other(self):
        book = Book([], quick("ab", "ba"))
        self.assertEqual(clash(({}, {"a": [(0, 1)], "b": [(0, 2)]}), book), ("pair", "b", 0, 2, "a", 0, 1))
        self.assertIsNone(clash(({}, {"a": [(0, 1)], "b": [(0, 1), (1, 1)]}), book))

    def test_empty_lists_and_names_that_nothing_reads(self):
        self.assertIsNone(clash(({"p": 3}, {"a": [], "h": ()}), Book([("a", 0, 1)], [("lead", "b", 1, 1)])))

    def test_looking_at_all_places_and_pairs(self):
        draw = random.Random(61)
        kinds = {}
        for _ in range(900):
            rules = draw.choice(["a", "ab", "abc"])
            log, promises = drawn_book(draw, "abc")
            answers = drawn.answers(draw, rules)
            found = clash(({}, answers), Book(log, promises))
            self.assertEqual(found, slow.clash(answers, log, promises))
            self.assertIs(is_picture(({}, answers), Book(log, promises)), found is None)
            kinds[found and found[0]] = kinds.get(found and found[0], 0) + 1
        self.assertTrue(all(kinds.get(kind, 0) > 30 for kind in (None, "torn", "lead", "pair")), kinds)


class Places(unittest.TestCase):
    def test_places(self):
        book = Book([("c", 1, 1), ("a", 0, 2), ("a", 5, 6)], [("quick", "a", "b")])
        told = places(({"x": 3}, {"d": [], "b": ((0, 9),), "a": [(-1, 2), (5, 6)]}), book)
        self.assertEqual(told, {"a": [(-1, 2), (0, 2), (5, 6)], "b": [(0, 9)], "c": [(1, 1)]})
        self.assertEqual(list(told), ["a", "b", "c"])
        self.assertEqual(places(({}, {}), EMPTY), {})

    def test_slow_reckoning(self):
        draw = random.Random(62)
        for _ in range(200):
            (log, promises), answers = drawn_book(draw, "ab"), drawn.answers(draw, "ab")
            if slow.clash(answers, log, promises) is None:
                self.assertEqual(places(({}, answers), Book(log, promises)), slow.places(answers, log))
            else:
                picture = ({}, answers)
                check_refused(self, InvalidPicture, picture, lambda: places(picture, Book(log, promises)))


class Joined(unittest.TestCase):
    def test_joined(self):
        one = ({"y": 1, "x": 2}, {"b": [(0, 1)], "a": [(3, 4), (9, 9)], "d": []})
        other = ({"x": 2, "p": 0}, {"c": (), "a": [(1, 4), (3, 4)], "e": [(0, 0)]})
        due = ({"p": 0, "x": 2, "y": 1}, {"a": [(1, 4), (3, 4), (9, 9)], "b": [(0, 1)], "e": [(0, 0)]})
        both = joined_pictures(one, other, EMPTY)
        self.assertEqual(both, due)
        self.assertEqual([list(both[0]), list(both[1])], [["p", "x", "y"], ["a", "b", "e"]])
        self.assertEqual(joined_pictures(other, one, EMPTY), due)
        self.assertEqual(joined_pictures(({}, {"a": []}), ({}, {"a": []}), EMPTY), ({}, {}))

    def test_none_together(self):
        book = Book([], [("quick", "a", "b")])
        pairs = [(({"x": 1}, {}), ({"x": 2}, {})), (({}, {"a": [(0, 1)]}), ({}, {"a": [(0, 2)]})),
                 (({}, {"a": [(0, 3)]}), ({}, {"a": [(1, 2)]})), (({}, {"a": [(0, 3)]}), ({}, {"b": [(0, 2)]}))]
        for one, other in pairs:
            self.assertIsNone(joined_pictures(one, other, book))
            self.assertIsNone(joined_pictures(other, one, book))
        self.assertIsNotNone(joined_pictures(*pairs[3], EMPTY))

    def test_pictures_of_the_book(self):
        book = Book([("a", 0, 1)], [])
        wrong_one, right = ({}, {"a": [(0, 2)]}), ({}, {})
        check_refused(self, InvalidPicture, wrong_one, lambda: joined_pictures(wrong_one, None, book))
        check_refused(self, InvalidPicture, wrong_one, lambda: joined_pictures(right, wrong_one, book))
        self.assertEqual(joined_pictures(right, right, book), ({}, {}))

    def test_slow_reckoning(self):
        draw = random.Random(63)
        some = none = 0
        while some < 60 or none < 60:
            log, promises = drawn_book(draw, "ab", 2, 2)
            pictures = [(drawn.days(draw, draw.choice(["", "x", "xy"]), 1), drawn.answers(draw, "abc", 2))
                        for _ in range(2)]
            if any(slow.clash(picture[1], log, promises) for picture in pictures):
                continue
            days, answers, fits = {}, {}, True
            for told_days, told in pictures:
                for name, day in told_days.items():
                    fits = fits and days.get(name, day) == day
                    days[name] = day
                for rule, rows in told.items():
                    for asked, served in rows:
                        known = answers.setdefault(rule, {})
                        fits = fits and known.get(asked, served) == served
                        known[asked] = served
            due = {rule: sorted(answers[rule].items()) for rule in answers if answers[rule]}
            fits = fits and slow.clash(due, log, promises) is None
            self.assertEqual(joined_pictures(*pictures, Book(log, promises)), (days, due) if fits else None)
            some, none = some + fits, none + (not fits)


def slow_asks(told, days, lists):
    """What is asked, from the words."""
    found = {}
    for piece in slow.pieces(told):
        if piece[0] in ("on", "by", "til"):
            if piece[0] == "on":
                asked = [slow.day_of(piece[2], days, lists)]
            else:
                day = slow.day_of(piece, days, lists)
                asked = [day, day - 1] if piece[0] == "by" else [day, day + 1]
            found.setdefault(piece[1], set()).update((day, slow.on(lists[piece[1]], day)) for day in asked)
    return {rule: sorted(found[rule]) for rule in sorted(found)}


class Worlds(unittest.TestCase):
    def test_asks(self):
        world = {"a": Table([0, 3, 3]), "b": Table([0, 7, 7, 7, 7, 7, 7]), "c": Table([0])}
        days = {"x": 1, "y": 8}
        self.assertEqual(asks_of(world, days, X), {})
        self.assertEqual(asks_of(world, days, ("on", "a", X)), {"a": [(1, 3)]})
        self.assertEqual(asks_of(world, days, ("by", "b", X)), {"b": [(0, 0), (1, 7)]})
        self.assertEqual(asks_of(world, days, ("til", "b", X)), {"b": [(0, 0), (1, 7)]})
        self.assertEqual(asks_of(world, days, ("til", "b", ("on", "a", Y))), {"a": [(8, 9)], "b": [(7, 7), (8, 14)]})
        self.assertEqual(asks_of(world, days, ("late", ("on", "b", Y), ("on", "b", ("add", 7, X)))), {"b": [(8, 14)]})
        self.assertEqual(list(asks_of(world, days, ("on", "b", ("on", "a", X)))), ["a", "b"])

    def test_picture_of(self):
        world = {"a": Table([0, 3, 3]), "b": Table([1])}
        told = ("or", ("le", X, X), ("and", ("le", ("num", 9), X), ("le", ("on", "a", X), ("by", "b", ("num", 5)))))
        # All parts are reckoned, also where the first one settles all.
        self.assertEqual(picture_of(world, {"y": 4, "x": 1}, told), ({"x": 1}, {"a": [(1, 3)], "b": [(3, 4), (4, 5)]}))
        both = picture_of(world, {"y": 4, "x": 1}, ("le", ("late", Y, X), Y))
        self.assertEqual((both, list(both[0])), (({"x": 1, "y": 4}, {}), ["x", "y"]))

    def test_what_is_missing(self):
        table = Table([0])
        for call, told in ((asks_of, ("late", ("on", "b", X), ("by", "a", Y))),
                           (picture_of, ("le", ("on", "b", X), ("by", "a", Y)))):
            check_missing(self, MissingRule, "rule", "a", lambda: call({}, {}, told))
            check_missing(self, MissingRule, "rule", "b", lambda: call({"a": table}, {}, told))
            check_missing(self, MissingName, "name", "x", lambda: call({"a": table, "b": table}, {"z": 1}, told))
            check_missing(self, MissingName, "name", "y", lambda: call({"a": table, "b": table}, {"x": 1}, told))
        check_too_many(self, "pieces", 60, lambda: asks_of({}, {"x": 1}, tower(60)))
        check_missing(self, MissingName, "name", "x", lambda: asks_of({}, {}, tower(60)))
        self.assertEqual(asks_of({}, {"x": 1}, tower(59)), {})
        check_too_many(self, "pieces", 60, lambda: picture_of({}, {"x": 1, "y": 1}, nots(58)))
        self.assertEqual(picture_of({}, {"x": 1, "y": 1}, nots(57)), ({"x": 1, "y": 1}, {}))

    def test_beside_the_world(self):
        draw = random.Random(64)
        checked = broken = 0
        while checked < 150:
            saying, days, lists = drawn.saying(draw, 2), drawn.days(draw, "xyzp"), drawn.lists(draw, "abc", 3)
            log = [(rule, at, slow.on(lists[rule], at)) for rule, at, _ in drawn_book(draw, "abc")[0]]
            promises = [promise for promise in [drawn.promise(draw, "abc") for _ in range(6)]
                        if keeps_slowly(lists, promise, range(-15, 16))]
            if len(slow.pieces(saying)) > 60:
                continue
            checked += 1
            book, world = Book(log, promises), drawn.world(lists)
            self.assertIs(keeps(world, book), True)
            picture = picture_of(world, days, saying)
            named = {piece[1] for piece in slow.pieces(saying) if piece[0] == "day"}
            self.assertEqual(picture, ({name: days[name] for name in sorted(named)}, slow_asks(saying, days, lists)))
            self.assertIs(is_picture(picture, book), True)
            self.assertIs(agrees(world, picture, book), True)
            for piece in slow.pieces(saying):
                if piece[0] in ("le", "and", "or", "not"):
                    self.assertIs(laid_holds(picture, book, piece), slow.holds(piece, days, lists))
                else:
                    self.assertEqual(laid_value(picture, book, piece), slow.day_of(piece, days, lists))
                    if piece == saying[1]:
                        self.assertEqual(asks_of(world, days, piece), slow_asks(piece, days, lists))
            broken += not slow.holds(saying, days, lists)
        self.assertGreater(broken, 30)


class Keeps(unittest.TestCase):
    def test_rows(self):
        world = {"a": Table([0, 3, 3]), "b": Table([1])}
        self.assertIs(keeps(world, Book([("a", 1, 3), ("a", 4, 6), ("b", 7, 8)], [])), True)
        self.assertIs(keeps(world, Book([("a", 1, 3), ("a", 4, 7)], [])), False)
        self.assertIs(keeps(world, EMPTY), True)
        self.assertIs(keeps({}, EMPTY), True)

    def test_leads(self):
        world = {"a": Table([0, 3, 3])}
        for least, most, kept in ((0, 2, True), (0, None, True), (None, 2, True), (1, None, False), (None, 1, False),
                                  (0, 1, False), (1, 2, False), (-5, 9, True)):
            self.assertIs(keeps(world, Book([], [("lead", "a", least, most)])), kept)

    def test_quick(self):
        world = {"a": Table([0, 3, 3]), "b": Table([2]), "c": Table([0, 2])}
        for rule, other, kept in (("a", "b", True), ("b", "a", False), ("c", "b", True), ("c", "a", False),
                                  ("a", "c", False)):
            self.assertIs(keeps(world, Book([], [("quick", rule, other)])), kept)

    def test_long_common_lengths(self):
        # On just one of 599 * 600 days the one is above the other.
        low = Table([0] * 599)
        high = low.moved(598)
        late = Table(list(range(600)))
        self.assertIs(keeps({"a": Table([0] * 600), "b": Table(list(range(599)))}, Book([], quick("ab"))), True)
        self.assertIs(keeps({"a": Table([0] * 599 + [600]), "b": Table(list(range(599)))}, Book([], quick("ab"))), False)
        self.assertIs(keeps({"a": late, "b": low}, Book([], quick("ab"))), False)
        self.assertIs(keeps({"a": late, "b": high}, Book([], quick("ab"))), True)
        self.assertIs(keeps({"a": late.moved(1), "b": high}, Book([], quick("ab"))), False)

    def test_missing(self):
        table = Table([0])
        book = Book([("c", 0, 0)], [("quick", "a", "b"), ("lead", "d", 0, 0)])
        check_missing(self, MissingRule, "rule", "a", lambda: keeps({}, book))
        check_missing(self, MissingRule, "rule", "b", lambda: keeps({"a": table, "d": table}, book))
        check_missing(self, MissingRule, "rule", "c", lambda: keeps({"a": table, "b": table, "d": table}, book))
        check_missing(self, MissingRule, "rule", "d", lambda: keeps({"a": table, "b": table, "c": table}, book))
        self.assertIs(keeps({rule: table for rule in "abcdh"}, book), True)

    def test_slow_reckoning(self):
        draw = random.Random(65)
        kept = {True: 0, False: 0}
        for _ in range(500):
            lists = drawn.lists(draw, "abc", 3)
            log, promises = drawn_book(draw, "abc", 0, 2)
            log = [(rule, at, slow.on(lists[rule], at) + draw.choice((0, 0, 0, 1)))
                   for rule, at, _ in drawn_book(draw, "abc", 2)[0]]
            due = all(slow.on(lists[rule], asked) == served for rule, asked, served in log)
            due = due and all(keeps_slowly(lists, promise, range(-6, 7)) for promise in promises)
            self.assertIs(keeps(drawn.world(lists), Book(log, promises)), due)
            kept[due] += 1
        self.assertTrue(min(kept.values()) > 60, kept)


class Agrees(unittest.TestCase):
    def test_agrees(self):
        world = {"a": Table([0, 3, 3]), "b": Table([1])}
        for answers, due in (({"a": [(1, 3), (4, 6)], "b": ((0, 1),)}, True), ({"a": [(1, 3), (4, 7)]}, False),
                             ({"a": [(1, 3)], "b": [(0, 2)]}, False), ({}, True), ({"a": []}, True)):
            self.assertIs(agrees(world, ({"x": 1}, answers), EMPTY), due)
        # Rows and promises of the book are not asked of the world.
        self.assertIs(agrees(world, ({}, {"a": [(1, 3)]}), Book([("c", 0, 1), ("b", 5, 9)], [("lead", "b", 4, 4)])), True)

    def test_missing(self):
        table = Table([0])
        picture = ({}, {"c": [(0, 0)], "b": [], "a": [(0, 5)]})
        check_missing(self, MissingRule, "rule", "a", lambda: agrees({}, picture, EMPTY))
        check_missing(self, MissingRule, "rule", "b", lambda: agrees({"a": table, "c": table}, picture, EMPTY))
        check_missing(self, MissingRule, "rule", "c", lambda: agrees({"a": table, "b": table}, picture, EMPTY))
        clashing = ({}, {"a": [(0, 5), (1, 4)]})
        check_refused(self, InvalidPicture, clashing, lambda: agrees({}, clashing, EMPTY))


if __name__ == "__main__":
    unittest.main()
