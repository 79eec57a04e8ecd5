"""Tracks, two stands, readings and loose papers."""

import random
import unittest

from leadrules.books import Book
from leadrules.errors import InvalidCount, InvalidFormula, InvalidStands
from leadrules.laid import laid_value
from leadrules.loose import is_loose, is_steady, loose, reading, stand_of, tracks_of
from leadrules.pictures import is_picture
from leadrules.slack import least_slack
from tests import drawn, known_books, slow, wrong
from tests.test_formulas import tower
from tests.test_slack import BROKEN, check_broken, drawn_pairs
from tests.wrong import check_refused, check_too_many

X, Y, Z = ("day", "x"), ("day", "y"), ("day", "z")
EMPTY = Book([], [])
COUNTS = (0, 1, 2, 7, 10 ** 6)


def on(rule, formula):
    return ("on", rule, formula)


def not_later(track, other):
    """Never later, by the words: the day not greater, and the step not greater."""
    return not track[0] > other[0] and not track[1] > other[1]


def ahead(track, other):
    return not_later(track, (other[0] - 1, other[1]))


def slow_tracks(stands):
    """The tracks of the names, and (rule, asked, served) of all answers."""
    (days, answers), (other_days, other_answers) = stands
    rows = [(rule, (asked, other_asked - asked), (served, other_served - served)) for rule in answers
            for (asked, served), (other_asked, other_served) in zip(answers[rule], other_answers[rule])]
    return {name: (days[name], other_days[name] - days[name]) for name in days}, rows


def slow_rows(stands, log):
    return slow_tracks(stands)[1] + [(rule, (asked, 0), (served, 0)) for rule, asked, served in log]


def slow_steady(stands, log, promises):
    """Whether two stands are steady, by the words."""
    rows = slow_rows(stands, log)
    for a, p, P in rows:
        for b, q, Q in rows:
            if a in slow.beneath(promises, b) and not (not_later(p, q) and not_later(P, Q) or ahead(q, p)):
                return False
        low, high = slow.low(promises, a), slow.high(promises, a)
        if low is not None and not not_later((p[0] + low, p[1]), P):
            return False
        if high is not None and not not_later(P, (p[0] + high, p[1])):
            return False
    return not slow.torn(promises)


def slow_reading(told, names, rows):
    """The reading of a formula, by the words."""
    word = told[0]
    if word == "day":
        return names.get(told[1])
    if word == "num":
        return (told[1], 0)
    parts = [slow_reading(part, names, rows) for part in told[1:] if isinstance(part, tuple)]
    if any(part is None for part in parts):
        return None
    t = parts[0]
    if word == "add":
        return (t[0] + told[1], t[1])
    if word in ("late", "soon"):
        u = parts[1]
        if word == "late":
            return t if not_later(u, t) else u if not_later(t, u) else None
        return t if not_later(t, u) else u if not_later(u, t) else None
    answers = [(asked, served) for rule, asked, served in rows if rule == told[1]]
    found = [served for asked, served in answers if asked == t]
    if word == "by":
        found = [m for m, served in answers if not_later(t, served)
                 and any(other == (m[0] - 1, m[1]) and ahead(early, t) for other, early in answers)]
    if word == "til":
        found = [m for m, served in answers if not_later(served, t)
                 and any(other == (m[0] + 1, m[1]) and ahead(t, after) for other, after in answers)]
    return min(found) if found else None


def stands(days, answers, more=(), steps=None):
    """Two stands: near, and next with steps added, told by name and by (rule, place) as (asked, served)."""
    near = (days, answers)
    behind = ({name: days[name] + dict(more).get(name, 0) for name in days}, {})
    for rule, rows in answers.items():
        both = [(row, (steps or {}).get((rule, at), (0, 0))) for at, row in enumerate(rows)]
        behind[1][rule] = [(row[0] + step[0], row[1] + step[1]) for row, step in both]
    return (near, behind)


def drawn_stands(seed, many, rules="ab", rows=2, promises=2):
    """Two stands of drawn answers, mostly in order, with a log and promises: (draw, stands, log, promises)."""
    draw = random.Random(seed)
    for _ in range(many):
        answers = drawn.answers(draw, rules)
        days, steps = drawn.days(draw, "xy", 4), {}
        for rule, told in answers.items():
            step = served_step = 0
            for at in range(len(told)):
                step, served_step = step + draw.choice((0, 0, 1)), served_step + draw.choice((0, 0, 1))
                steps[(rule, at)] = (step, served_step)
        log = [drawn.row(draw, rules) for _ in range(draw.randint(0, rows))]
        told = [drawn.promise(draw, rules) for _ in range(draw.randint(0, promises))]
        more = {name: draw.randint(-1, 2) for name in days}
        yield draw, stands(days, answers, more, steps), log, told


def two():
    """Two stands with the names and rules in unlike sequences."""
    return (({"y": 4, "x": 0}, {"b": [(0, 1), (2, 9)], "a": ()}), ({"x": 2, "y": 3}, {"a": [], "b": ((0, 0), (5, 9))}))


class Stands(unittest.TestCase):
    def test_stand_of(self):
        pair = two()
        self.assertEqual(stand_of(pair, 0), ({"x": 0, "y": 4}, {"a": [], "b": [(0, 1), (2, 9)]}))
        self.assertEqual(stand_of(pair, 1), ({"x": 2, "y": 3}, {"a": [], "b": [(0, 0), (5, 9)]}))
        self.assertEqual(stand_of(pair, 10 ** 9), ({"x": 2 * 10 ** 9, "y": 4 - 10 ** 9},
                                                   {"a": [], "b": [(0, 1 - 10 ** 9), (2 + 3 * 10 ** 9, 9)]}))
        self.assertEqual([list(table) for table in stand_of(pair, 3)], [["x", "y"], ["a", "b"]])

    def test_tracks_of(self):
        pair = two()
        self.assertEqual(tracks_of(pair), ({"x": (0, 2), "y": (4, -1)},
                                           {"a": [], "b": [((0, 0), (1, -1)), ((2, 3), (9, 0))]}))
        self.assertEqual([list(table) for table in tracks_of(pair)], [["x", "y"], ["a", "b"]])
        self.assertEqual(tracks_of((({}, {}), ({}, {}))), ({}, {}))

    def test_what_are_no_two_stands(self):
        for value in wrong.NOT_STANDS:
            for call in (lambda: stand_of(value, 3), lambda: tracks_of(value), lambda: reading(value, EMPTY, X)):
                check_refused(self, InvalidStands, value, call)
            self.assertIs(is_steady(value, EMPTY), False)
            self.assertIs(is_loose(value, X, Y, EMPTY), False)

    def test_neighbouring_answers_that_come_nearer(self):
        for asked, fine in (((0, 3, 7), True), ((9, 12, 16), True), ((-5, -2, 9), True), ((0, 2, 7), False),
                            ((0, 3, 6), False), ((1, 3, 9), False), ((0, 4, 7), False)):
            value = (({}, {"a": [(0, 0), (3, 0), (7, 0)]}), ({}, {"a": [(day, 0) for day in asked]}))
            if fine:
                self.assertEqual(stand_of(value, 1)[1]["a"], [(day, 0) for day in asked])
            else:
                check_refused(self, InvalidStands, value, lambda: stand_of(value, 1))

    def test_served_days_may_come_nearer(self):
        # Two stands need no more; beside a book they are not steady.
        value = (({}, {"a": [(0, 0), (3, 5)]}), ({}, {"a": [(0, 2), (3, 5)]}))
        self.assertEqual(stand_of(value, 2), ({}, {"a": [(0, 4), (3, 5)]}))
        self.assertIs(is_steady(value, EMPTY), False)

    def test_sequence_of_errors(self):
        value = wrong.NOT_STANDS[0]
        check_refused(self, InvalidStands, value, lambda: stand_of(value, None))
        check_refused(self, InvalidCount, -1, lambda: stand_of((({}, {}), ({}, {})), -1))
        check_refused(self, InvalidStands, value, lambda: reading(value, EMPTY, None))

    def test_slow_reckoning(self):
        for _, pair, _, _ in drawn_stands(170, 100):
            names, rows = slow_tracks(pair)
            self.assertEqual(tracks_of(pair)[0], names)
            self.assertEqual([(rule, *row) for rule, told in tracks_of(pair)[1].items() for row in told], sorted(rows))
            for many in COUNTS:
                days, answers = stand_of(pair, many)
                self.assertEqual(days, {name: day + many * step for name, (day, step) in names.items()})
                self.assertEqual([(rule, *row) for rule in answers for row in answers[rule]],
                                 [(rule, p[0] + many * p[1], P[0] + many * P[1]) for rule, p, P in sorted(rows)])


class Steady(unittest.TestCase):
    def check(self, pair, book, due):
        self.assertIs(is_steady(pair, book), due)
        self.assertIs(slow_steady(pair, book.log, book.promises), due)

    def test_tracks_that_stay_and_that_go(self):
        self.check(stands({}, {"a": [(0, 1), (3, 4)]}), EMPTY, True)
        self.check(stands({}, {"a": [(0, 1), (3, 4)]}, (), {("a", 1): (2, 5)}), EMPTY, True)
        self.check(stands({}, {"a": [(0, 1), (3, 4)]}, (), {("a", 0): (0, 1), ("a", 1): (0, 1)}), EMPTY, True)
        # Served by another step: the first one comes later than the second one.
        self.check(stands({}, {"a": [(0, 1), (3, 4)]}, (), {("a", 0): (0, 1)}), EMPTY, False)
        # Out of order already near.
        self.check(stands({}, {"a": [(0, 5), (3, 4)]}, (), {("a", 1): (0, 9)}), EMPTY, False)

    def test_alike_and_ahead(self):
        # Answers of two rules, the one beneath the other, on one asked day for ever.
        quick = Book([], [("quick", "a", "b")])
        self.check(stands({}, {"a": [(0, 1)], "b": [(0, 1)]}), quick, True)
        self.check(stands({}, {"a": [(0, 2)], "b": [(0, 1)]}), quick, False)
        self.check(stands({}, {"a": [(0, 2)], "b": [(0, 1)]}), EMPTY, True)
        # That of b is ahead by a day, and stays so, or comes nearer.
        self.check(stands({}, {"a": [(1, 2)], "b": [(0, 1)]}), quick, True)
        self.check(stands({}, {"a": [(1, 2)], "b": [(0, 1)]}, (), {("a", 0): (3, 0)}), quick, True)
        self.check(stands({}, {"a": [(1, 2)], "b": [(0, 1)]}, (), {("b", 0): (1, 0)}), quick, False)
        self.check(stands({}, {"a": [(1, 2)], "b": [(0, 1)]}, (), {("b", 0): (1, 5)}), quick, False)
        # Steps of which neither track is never later.
        self.check(stands({}, {"a": [(0, 0)], "b": [(3, 3)]}, (), {("a", 0): (1, 0)}), quick, False)

    def test_log_rows_stay(self):
        row = Book([("a", 3, 9)], [])
        self.check(stands({}, {"a": [(0, 9)]}, (), {("a", 0): (-1, -5)}), row, True)
        self.check(stands({}, {"a": [(0, 9)]}, (), {("a", 0): (1, 0)}), row, False)
        self.check(stands({}, {"a": [(0, 10)]}), row, False)
        self.check(stands({}, {"a": [(3, 9), (4, 9)]}, (), {("a", 1): (1, 1)}), row, True)
        self.check(stands({}, {"a": [(3, 8)]}), row, False)
        # Rows against each other.
        self.check(stands({}, {}), Book([("a", 3, 9), ("a", 4, 8)], []), False)
        self.check(stands({}, {}), Book([("a", 3, 9), ("a", 4, 9)], []), True)

    def test_lows_and_highs(self):
        book = Book([], [("lead", "a", 1, 3)])
        self.check(stands({}, {"a": [(0, 2)]}), book, True)
        self.check(stands({}, {"a": [(0, 2)]}, (), {("a", 0): (5, 5)}), book, True)
        self.check(stands({}, {"a": [(0, 2)]}, (), {("a", 0): (0, 1)}), book, False)
        self.check(stands({}, {"a": [(0, 2)]}, (), {("a", 0): (1, 0)}), book, False)
        self.check(stands({}, {"a": [(0, 0)]}), book, False)
        self.check(stands({}, {"a": [(0, 4)]}), book, False)
        # The low of a rule from one that is beneath it, the high from one above.
        chain = Book([], [("quick", "a", "b"), ("lead", "a", 1, None), ("lead", "b", None, 3)])
        self.check(stands({}, {"b": [(0, 0)]}), chain, False)
        self.check(stands({}, {"a": [(0, 4)]}), chain, False)
        self.check(stands({}, {"c": [(0, 0)]}, (), {("c", 0): (0, 1)}), chain, True)

    def test_torn_rules(self):
        self.check(stands({"x": 0}, {}), Book([], [("lead", "h", 3, 2)]), False)
        self.check(stands({"x": 0}, {}), Book([], [("lead", "h", 2, 2)]), True)

    def test_any_value(self):
        for value in wrong.ANYTHING:
            if value not in wrong.NOT_PICTURES:
                self.assertIs(is_steady(value, EMPTY), False)
        self.assertIs(is_steady((({}, {}), ({}, {})), EMPTY), True)

    def test_slow_reckoning(self):
        """Steady or not by the words; where they are, each stand is a picture of the book."""
        found = {True: 0, False: 0}
        for _, pair, log, promises in drawn_stands(171, 600):
            book, due = Book(log, promises), slow_steady(pair, log, promises)
            found[due] += 1
            self.assertIs(is_steady(pair, book), due)
            for many in COUNTS if due else ():
                picture = stand_of(pair, many)
                self.assertIs(is_picture(picture, book), True)
                self.assertIsNone(slow.clash(picture[1], log, promises))
        self.assertTrue(min(found.values()) > 80, found)


class Readings(unittest.TestCase):
    def test_leaves(self):
        pair = stands({"x": 3, "y": 1}, {}, {"x": 2})
        told = [reading(pair, EMPTY, leaf) for leaf in (X, Y, Z, ("num", -4))]
        self.assertEqual(told, [(3, 2), (1, 0), None, (-4, 0)])

    def test_on(self):
        pair = stands({"x": 3, "y": 3}, {"a": [(3, 5)]}, {"x": 2}, {("a", 0): (2, 7)})
        self.assertEqual(reading(pair, EMPTY, on("a", X)), (5, 7))
        # Another step, another rule, a name that is none.
        self.assertIsNone(reading(pair, EMPTY, on("a", Y)))
        self.assertIsNone(reading(pair, EMPTY, on("b", X)))
        self.assertIsNone(reading(pair, EMPTY, on("a", Z)))
        self.assertEqual(reading(pair, Book([("a", 3, 4), ("b", 9, 9)], []), on("a", Y)), (4, 0))
        self.assertEqual(reading(pair, Book([("b", 9, 11)], []), on("b", ("num", 9))), (11, 0))

    def test_by(self):
        steps = {("a", 0): (1, 0), ("a", 1): (1, 4)}
        pair = stands({"x": 5, "y": 9}, {"a": [(2, 4), (3, 8)]}, {"x": 1}, steps)
        self.assertEqual(reading(pair, EMPTY, ("by", "a", X)), (3, 1))
        # Later than the served one; the one a day earlier is not ahead; no answer a day earlier.
        self.assertIsNone(reading(pair, EMPTY, ("by", "a", Y)))
        self.assertIsNone(reading(pair, EMPTY, ("by", "a", ("num", 4))))
        self.assertEqual(reading(pair, EMPTY, ("by", "a", ("num", 5))), (3, 1))
        self.assertIsNone(reading(stands({"x": 5}, {"a": [(3, 8)]}), EMPTY, ("by", "a", X)))
        self.assertEqual(reading(stands({"x": 5}, {"a": [(3, 8)]}), Book([("a", 2, 4)], []), ("by", "a", X)), (3, 0))
        self.assertIsNone(reading(stands({"x": 5}, {"a": [(3, 8)]}), Book([("a", 1, 4)], []), ("by", "a", X)))

    def test_til(self):
        steps = {("a", 0): (1, 0), ("a", 1): (1, 4)}
        pair = stands({"x": 5, "y": 3}, {"a": [(2, 4), (3, 8)]}, {"x": 1}, steps)
        self.assertEqual(reading(pair, EMPTY, ("til", "a", X)), (2, 1))
        self.assertIsNone(reading(pair, EMPTY, ("til", "a", Y)))
        self.assertEqual(reading(pair, EMPTY, ("til", "a", ("num", 7))), (2, 1))
        self.assertIsNone(reading(pair, EMPTY, ("til", "a", ("num", 8))))
        self.assertIsNone(reading(stands({"x": 5}, {"a": [(2, 4)]}), EMPTY, ("til", "a", X)))
        self.assertEqual(reading(stands({"x": 5}, {"a": [(2, 4)]}), Book([("a", 3, 6)], []), ("til", "a", X)), (2, 0))

    def test_add(self):
        pair = stands({"x": 3}, {}, {"x": -2})
        self.assertEqual(reading(pair, EMPTY, ("add", -5, X)), (-2, -2))
        self.assertIsNone(reading(pair, EMPTY, ("add", 1, Y)))

    def test_late_and_soon(self):
        pair = stands({"x": 3, "y": 4, "z": 4}, {}, {"x": 1, "y": 1})
        self.assertEqual([reading(pair, EMPTY, (word, first, second)) for word in ("late", "soon")
                          for first, second in ((X, Y), (Y, X), (Y, Y), (X, Z), (Y, Z), (Z, Y), (X, ("day", "p")))],
                         [(4, 1), (4, 1), (4, 1), None, (4, 1), (4, 1), None,
                          (3, 1), (3, 1), (4, 1), None, (4, 0), (4, 0), None])

    def test_the_least_of_several(self):
        # At stands that are not steady: the log tells another served day on the asked one.
        pair = stands({"x": 3}, {"a": [(3, 5)]}, (), {("a", 0): (0, 2)})
        self.assertEqual(reading(pair, Book([("a", 3, 5)], []), on("a", X)), (5, 0))
        self.assertEqual(reading(pair, Book([("a", 3, 4)], []), on("a", X)), (4, 0))
        self.assertEqual(reading(pair, Book([("a", 3, 6)], []), on("a", X)), (5, 2))

    def test_no_limit_of_pieces_and_no_broken_book(self):
        pair = stands({"x": 3}, {})
        self.assertEqual(reading(pair, EMPTY, tower(100)), (103, 0))
        self.assertEqual(reading(pair, BROKEN, X), (3, 0))
        for value in wrong.NOT_FORMULAS:
            check_refused(self, InvalidFormula, value, lambda: reading(pair, BROKEN, value))

    def test_slow_reckoning(self):
        found = {True: 0, False: 0}
        for draw, pair, log, promises in drawn_stands(172, 500):
            names, _ = slow_tracks(pair)
            told = drawn.formula(draw, draw.randint(1, 3), "xyz")
            due = slow_reading(told, names, slow_rows(pair, log))
            found[due is None] += 1
            self.assertEqual(reading(pair, Book(log, promises), told), due)
        self.assertTrue(min(found.values()) > 80, found)

    def test_laid_rules_give_the_reading(self):
        """At steady stands the laid rules of each stand give the day of the reading."""
        checked = 0
        for draw, pair, log, promises in drawn_stands(173, 800, rows=1, promises=1):
            book = Book(log, promises)
            if not slow_steady(pair, log, promises):
                continue
            for _ in range(6):
                told = drawn.formula(draw, 2, "xy")
                track = reading(pair, book, told)
                if track is not None:
                    checked += told[0] not in ("day", "num")
                    for many in COUNTS[:4]:
                        self.assertEqual(laid_value(stand_of(pair, many), book, told), track[0] + many * track[1])
        self.assertGreater(checked, 150)


class Loose(unittest.TestCase):
    def test_is_loose(self):
        served = on("a", X)
        pair = stands({"x": 0}, {"a": [(0, 0)]}, (), {("a", 0): (0, 1)})
        self.assertIs(is_loose(pair, served, X, EMPTY), True)
        self.assertIs(is_loose(pair, X, served, EMPTY), False)
        self.assertIs(is_loose(pair, served, served, EMPTY), False)
        self.assertIs(is_loose(pair, served, Y, EMPTY), False)
        # The one formula or the other has no reading.
        self.assertIs(is_loose(pair, served, on("b", X), EMPTY), False)
        self.assertIs(is_loose(pair, on("b", X), served, EMPTY), False)
        # Not steady beside these books, or no rules keep them.
        for book in (Book([], [("lead", "a", 1, 3)]), Book([], [("lead", "a", None, 90)]), Book([("a", 2, 3)], []),
                     BROKEN):
            self.assertIs(is_loose(pair, served, X, book), False)
        self.assertIs(is_loose(pair, served, X, Book([], [("lead", "a", 0, None)])), True)
        # Days that go backward are loose as well.
        self.assertIs(is_loose(stands({"x": 0, "y": 5}, {}, {"x": -3, "y": -4}), X, Y, EMPTY), True)

    def test_any_value(self):
        for value in wrong.ANYTHING:
            self.assertIs(is_loose(value, on("a", X), X, EMPTY), False)

    def test_none_where_there_is_a_slack(self):
        for first, second, book in ((X, X, EMPTY), (on("a", X), X, Book([], [("lead", "a", 1, 3)])),
                                    (on("a", ("til", "a", X)), X, EMPTY), (("num", 3), ("num", -3), EMPTY)):
            self.assertIsNone(loose(first, second, book))

    def test_exactly_where_there_is_no_slack(self):
        found = {True: 0, False: 0}
        for _, _, log, promises, first, second in drawn_pairs(174, 250):
            book = Book(log, promises)
            pair, none = loose(first, second, book), least_slack(first, second, book) is None
            found[none] += 1
            self.assertIs(pair is not None, none)
            if pair is None:
                continue
            self.assertIs(is_loose(pair, first, second, book), True)
            self.assertTrue(slow_steady(pair, log, promises))
            names, rows = slow_tracks(pair)[0], slow_rows(pair, log)
            tracks = [slow_reading(told, names, rows) for told in (first, second)]
            self.assertGreater(tracks[0][1], tracks[1][1])
            # So the first formula is later by any number of days.
            picture = stand_of(pair, 1000)
            later = laid_value(picture, book, first) - laid_value(picture, book, second)
            self.assertEqual(later, tracks[0][0] - tracks[1][0] + 1000 * (tracks[0][1] - tracks[1][1]))
            self.assertIs(is_picture(picture, book), True)
        self.assertTrue(min(found.values()) > 60, found)

    def test_days_that_were_returned(self):
        """Days far on, at stands made of stands that were returned, are as good as others."""
        served = on("a", X)
        far = stand_of(loose(served, X, EMPTY), 10 ** 12)
        for power in (24, 48, 96):
            far = stand_of((stand_of(loose(served, X, EMPTY), 0), far), far[1]["a"][0][1])
            asked, day = far[1]["a"][0]
            self.assertEqual((asked, day), (0, 10 ** power))
            book = Book([("a", asked, day)], [])
            self.assertEqual(least_slack(on("a", ("num", -1)), ("num", 5), book), day - 5)
            self.assertEqual(least_slack(("num", 5), on("a", ("num", 1)), book), 5 - day)
            self.assertIsNone(least_slack(on("a", ("num", 1)), ("num", day), book))

    def test_refused(self):
        check_broken(self, lambda: loose(X, Y, BROKEN))
        check_broken(self, lambda: loose(tower(70), Y, BROKEN))
        check_refused(self, InvalidFormula, None, lambda: loose(tower(70), None, BROKEN))
        check_too_many(self, "pieces", 60, lambda: loose(tower(56), tower(1, Y), EMPTY))
        check_too_many(self, "pieces", 60, lambda: is_loose(None, tower(56), tower(1, Y), EMPTY))
        pair = loose(tower(55), tower(1, Y), EMPTY)
        self.assertIs(is_loose(pair, tower(55), tower(1, Y), EMPTY), True)
        self.assertEqual(known_books.pieces(tower(55)), 56)


if __name__ == "__main__":
    unittest.main()
