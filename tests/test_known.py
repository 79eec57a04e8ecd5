"""Known trees, known breaks and sureness beside calendars."""

import random
import unittest

from leadrules.books import Book
from leadrules.errors import (BrokenBook, InvalidDays, InvalidFormula, InvalidPicture, InvalidSaying, InvalidWorld, KnownRule,
                              MissingName)
from leadrules.known import (is_known_break, is_known_tree, known_broken, known_holds, known_sureness, known_tree, known_value,
                             known_verdict, period_rows, told_out)
from leadrules.laid import is_break, laid_value
from leadrules.sure import sureness
from leadrules.tables import Table
from leadrules.verdicts import verdict
from tests import calendar_cases, drawn, known_books, slow, slowknown, wrong
from tests.test_formulas import tower
from tests.test_sayings import nots
from tests.test_slack import BROKEN, check_broken
from tests.wrong import check_missing, check_refused, check_too_many, raised

X, Y = ("day", "x"), ("day", "y")
ZERO = ("num", 0)
EMPTY = Book([], [])
EVEN = {"c": Table([0, 2])}
WEEK = {"c": Table([0, 7, 7, 7, 7, 7, 7])}
FORTNIGHT = {"c": Table([0, 2]), "d": Table([0, 0, 0, 3, 4, 5, 6])}
FAR = {"c": Table([0] * 15)}


def le(first, second):
    return ("le", first, second)


def on(rule, formula):
    return ("on", rule, formula)


def add(many, formula):
    return ("add", many, formula)


def nodes(tree):
    """How many nodes a known tree has."""
    if tree[0] == "legs":
        return 1
    parts = tree[2] if tree[0] == "rest" else [part for part in tree[1:] if isinstance(part, tuple)]
    return 1 + sum(nodes(part) for part in parts)


def all_legs(tree):
    """The legs of all leaves."""
    if tree[0] == "legs":
        return [tree[1]]
    parts = tree[2] if tree[0] == "rest" else [part for part in tree[1:] if isinstance(part, tuple)]
    return [legs for part in parts for legs in all_legs(part)]


def words(tree):
    """The words of all nodes, each ahead of those in it."""
    if tree[0] == "legs":
        return ["legs"]
    parts = tree[2] if tree[0] == "rest" else [part for part in tree[1:] if isinstance(part, tuple)]
    return [tree[0]] + [word for part in parts for word in words(part)]


def drawn_calendars(draw, rules, lengths=((1,), (2,), (3,), (4,), (2, 4), (3, 1), (2, 1))):
    """Lists of days of few lengths, whose length is at most 14."""
    chosen = draw.choice(lengths)
    return {rule: drawn.list_of_days(draw, length, 3) for rule, length in zip(rules, chosen)}


def put(told, name, formula):
    """A formula in the place of a name's day."""
    if told == ("day", name):
        return formula
    return tuple(put(part, name, formula) if isinstance(part, tuple) else part for part in told)


def moved_saying(draw, inner):
    """A formula is not later than itself, each name some days later: so in most cases."""
    told = drawn.formula(draw, inner, "xy", "abcd")
    later = put(put(told, "x", add(draw.randint(-1, 3), X)), "y", add(draw.randint(-1, 3), Y))
    return le(told, add(draw.randint(-1, 2), later))


def drawn_cases(seed, many, depth=1, inner=2, names="xy"):
    """So many (draw, lists of the calendars, hidden lists, log, promises, saying)."""
    draw = random.Random(seed)
    found = 0
    while found < many:
        calendars = drawn_calendars(draw, draw.choice(("c", "cd", "dc")))
        hidden = drawn.lists(draw, "ab", 3)
        log = known_books.kept_log(draw, "ab", hidden, draw.randint(0, 2))
        promises = known_books.kept_promises(draw, "ab", drawn.world(hidden), draw.randint(0, 2))
        if draw.random() < 0.5:
            saying = drawn.saying(draw, draw.randint(0, depth), inner, names, "abcd")
        else:
            saying = moved_saying(draw, inner)
        if known_books.pieces(saying) <= 40:
            found += 1
            yield draw, calendars, hidden, log, promises, saying


def tight_cases(seed, many, lengths, depth=3):
    """So many (lists, saying, truth): sayings of one name that hold for all but just so, and such as just break."""
    draw = random.Random(seed)
    found = 0
    while found < many:
        lists = drawn_calendars(draw, "cd", lengths)
        rules = "".join(lists)
        first = drawn.formula(draw, depth, "x", rules, "days")
        second = drawn.formula(draw, depth - 1, "x", rules, "days")
        if known_books.pieces(first) + known_books.pieces(second) > 50:
            continue
        gap = max(slow.day_of(first, {"x": day}, lists) - slow.day_of(second, {"x": day}, lists)
                  for day in range(slowknown.length_of(lists)))
        found += 1
        outer = draw.choice((None, "a", "b"))
        for most, truth in ((gap, True), (gap - 1, False)):
            sides = [first, add(most, second)]
            yield lists, le(*[on(outer, side) if outer else side for side in sides]), truth


class Verdicts(unittest.TestCase):
    def check_all(self, saying, calendars, book=EMPTY):
        self.assertEqual(known_verdict(saying, book, calendars), "all", saying)
        self.assertIsNone(known_broken(saying, book, calendars))
        paper = known_tree(saying, book, calendars)
        self.assertIs(is_known_tree(paper, saying, book, calendars), True)
        lists = {rule: table.days() for rule, table in calendars.items()}
        self.assertTrue(slowknown.Judge(saying, book.log, book.promises, lists or {"h": [0]}).is_known_tree(paper))
        return paper

    def check_breaks(self, saying, calendars, book=EMPTY):
        self.assertEqual(known_verdict(saying, book, calendars), "breaks", saying)
        self.assertIsNone(known_tree(saying, book, calendars))
        picture = known_broken(saying, book, calendars)
        self.assertIs(is_known_break(picture, saying, book, calendars), True)
        lists = {rule: table.days() for rule, table in calendars.items()}
        self.assertTrue(slowknown.is_known_break(picture, saying, book.log, book.promises, lists))
        return picture

    def test_leads_of_the_table(self):
        self.check_all(le(X, on("c", X)), EVEN)
        self.check_breaks(le(on("c", X), X), EVEN)
        self.check_all(le(on("c", X), add(6, X)), WEEK)
        self.check_breaks(le(on("c", X), add(5, X)), WEEK)
        self.check_breaks(le(X, on("c", X)), {})

    def test_rests(self):
        """On even days alone something is served, so two served days differ by two days at least."""
        paper = self.check_all(calendar_cases.even(), EVEN)
        self.assertIn("rest", words(paper))
        self.assertTrue(any(len(legs) > 1 for legs in all_legs(paper)))
        self.check_breaks(("or", le(on("c", X), on("c", Y)), le(add(3, on("c", Y)), on("c", X))), EVEN)
        self.check_breaks(calendar_cases.even(), {"c": Table([0, 1])})

    def test_days_that_are_told(self):
        self.check_all(le(on("c", ("num", 3)), ("num", 7)), WEEK)
        self.check_breaks(le(on("c", ("num", 3)), ("num", 6)), WEEK)
        self.check_all(le(("num", 14), on("c", ("num", 8))), WEEK)
        self.check_all(le(on("c", ZERO), ZERO), WEEK)
        self.check_all(le(on("c", ("num", -13)), ("num", -7)), WEEK)
        for day in range(-9, 10):
            self.check_all(le(("by", "c", ("num", day)), ("num", WEEK["c"].by(day))), WEEK)
            self.check_breaks(le(("num", WEEK["c"].til(day) + 1), ("til", "c", ("num", day))), WEEK)

    def test_no_calendars(self):
        for saying in (le(on("a", X), on("a", add(1, X))), le(X, X)):
            paper = self.check_all(saying, {})
            self.assertNotIn("rest", words(paper))
            self.assertTrue(all(len(legs) == 1 for legs in all_legs(paper)))
        self.check_breaks(le(on("a", X), X), {})

    def test_length_one(self):
        later = {"c": Table([3])}
        self.check_all(le(on("c", X), add(3, X)), later)
        self.check_all(le(add(3, X), on("c", X)), later)
        self.check_all(le(("by", "c", X), add(-3, X)), later)
        self.check_breaks(le(add(4, X), on("c", X)), later)

    def test_other_rules(self):
        self.check_all(le(on("b", X), on("b", on("c", X))), EVEN)
        self.check_breaks(le(on("c", on("b", X)), on("b", on("c", X))), EVEN)
        leads = Book([], [("lead", "b", 1, 1)])
        self.check_all(le(on("c", on("b", on("c", X))), add(2, on("c", X))), EVEN, leads)
        self.check_all(le(add(2, on("c", X)), on("c", on("b", on("c", X)))), EVEN, leads)
        self.check_breaks(le(on("c", on("b", on("c", X))), add(1, on("c", X))), EVEN, leads)
        rows = Book([("b", 3, 5)], [])
        self.check_all(le(on("c", on("b", ("num", 2))), ("num", 7)), WEEK, rows)
        self.check_breaks(le(on("c", on("b", ("num", 4))), ("num", 7)), WEEK, rows)

    def test_broken_books(self):
        for book in (Book([("a", 0, 5), ("a", 1, 4)], []), Book([], [("lead", "a", 3, 2)])):
            self.check_all(le(("num", 1), ZERO), EVEN, book)
            self.check_all(le(on("c", X), on("h", Y)), WEEK, book)

    def test_two_lengths(self):
        """The length is 14: both on the same day just then."""
        both = le(on("d", on("c", X)), add(5, X))
        due = max(slow.on([0, 0, 0, 3, 4, 5, 6], slow.on([0, 2], day)) - day for day in range(14))
        self.assertEqual(due, 1)
        self.check_all(le(on("d", on("c", X)), add(due, X)), FORTNIGHT)
        self.check_breaks(le(on("d", on("c", X)), add(due - 1, X)), FORTNIGHT)
        self.check_all(both, FORTNIGHT)

    def test_both_never(self):
        """A known tree or a known break, each judged slowly, never both."""
        found = {"all": 0, "breaks": 0, "rest": 0}
        for draw, lists, hidden, log, promises, saying in drawn_cases(320, 500):
            book, calendars = Book(log, promises), drawn.world(lists)
            paper, picture = known_tree(saying, book, calendars), known_broken(saying, book, calendars)
            self.assertIsNot(paper is None, picture is None)
            found[known_verdict(saying, book, calendars)] += 1
            if picture is None:
                self.assertTrue(slowknown.Judge(saying, log, promises, lists).is_known_tree(paper))
                self.assertIs(is_known_tree(paper, saying, book, calendars), True)
                found["rest"] += "rest" in words(paper)
            else:
                self.assertTrue(slowknown.is_known_break(picture, saying, log, promises, lists))
                self.assertIs(is_known_break(picture, saying, book, calendars), True)
        self.assertTrue(found["all"] > 60 and found["breaks"] > 200, found)

    def test_all_rests_and_days(self):
        """Sayings of calendars' rules alone, by all rests of one name's day."""
        found = {True: 0, False: 0, "rest": 0, "legs": 0}
        lengths = ((2,), (3,), (4, 2), (7,), (5,), (14,), (7, 2))
        for lists, saying, truth in tight_cases(321, 220, lengths):
            calendars = drawn.world(lists)
            found[truth] += 1
            self.assertEqual(known_verdict(saying, EMPTY, calendars), "all" if truth else "breaks", (lists, saying))
            paper = known_tree(saying, EMPTY, calendars)
            if truth:
                self.assertTrue(slowknown.Judge(saying, [], [], lists).is_known_tree(paper))
                found["rest"] += "rest" in words(paper)
                found["legs"] += any(len(legs) > 1 for legs in all_legs(paper))
            else:
                self.assertTrue(slowknown.is_known_break(known_broken(saying, EMPTY, calendars), saying, [], [], lists))
        self.assertTrue(min(found.values()) > 10, found)

    def test_by_and_til_alone(self):
        """Where a break hangs on the day beside the one that is asked for."""
        draw = random.Random(324)
        found = {True: 0, False: 0}
        for _ in range(300):
            lists = {"c": drawn.list_of_days(draw, draw.randint(2, 7), 4)}
            told = (draw.choice(("by", "til")), "c", X)
            if draw.random() < 0.5:
                told = (draw.choice(("by", "til")), "c", add(draw.randint(-2, 2), told))
            gaps = [slow.day_of(told, {"x": day}, lists) - day for day in range(len(lists["c"]))]
            for saying, truth in ((le(told, add(max(gaps), X)), True), (le(told, add(max(gaps) - 1, X)), False),
                                  (le(add(min(gaps), X), told), True), (le(add(min(gaps) + 1, X), told), False)):
                found[truth] += 1
                paper, picture = [call(saying, EMPTY, drawn.world(lists)) for call in (known_tree, known_broken)]
                if truth:
                    self.assertTrue(slowknown.Judge(saying, [], [], lists).is_known_tree(paper))
                else:
                    self.assertTrue(slowknown.is_known_break(picture, saying, [], [], lists))
        self.assertEqual(found, {True: 600, False: 600})

    def test_two_names_by_days(self):
        """Sayings with two names and days that are told, by all days that are not too far."""
        draw = random.Random(322)
        found = {True: 0, False: 0}
        for _ in range(120):
            lists = drawn_calendars(draw, "cd", ((2,), (3,), (2, 1), (4,)))
            lists.setdefault("d", [1])
            saying = drawn.saying(draw, 1, 2, "xy", "cd")
            if known_books.pieces(saying) > 14:
                continue
            truth = all(slow.holds(saying, {"x": first, "y": second}, lists)
                        for first in range(-20, 21) for second in range(-20, 21))
            found[truth] += 1
            self.assertEqual(known_verdict(saying, EMPTY, drawn.world(lists)), "all" if truth else "breaks", (lists, saying))
        self.assertTrue(min(found.values()) > 10, found)

    def test_hidden_tables(self):
        """What holds for all holds for drawn Tables of the other rules that keep the book, on drawn days."""
        held = 0
        others = {"c": [0], "d": [0]}
        for draw, lists, hidden, log, promises, saying in drawn_cases(323, 300, 2, 2):
            truths = [slow.holds(saying, drawn.days(draw, "xy"), {**others, **lists, **hidden}) for _ in range(10)]
            calendars = drawn.world({**others, **lists})
            if known_verdict(saying, Book(log, promises), calendars) == "all":
                held += 1
                self.assertTrue(all(truths))
            elif not all(truths):
                self.assertIsNone(known_tree(saying, Book(log, promises), calendars))
        self.assertGreater(held, 20)


class KnownTrees(unittest.TestCase):
    SAYING, CALENDARS = calendar_cases.even(), EVEN

    def judged(self, value):
        return is_known_tree(value, self.SAYING, EMPTY, self.CALENDARS)

    def test_bent_trees(self):
        """Told trees with a node changed, beside an own judge."""
        draw = random.Random(330)
        right = wrongs = 0
        for lists, saying, truth in tight_cases(331, 60, ((2,), (3,), (2, 1), (4,)), 2):
            paper = known_tree(saying, EMPTY, drawn.world(lists))
            if paper is None:
                continue
            judge = slowknown.Judge(saying, [], [], lists)
            for _ in range(12):
                bent = self.bent(draw, paper, len(judge.listed), judge.length)
                due = judge.is_known_tree(bent)
                right, wrongs = right + due, wrongs + (not due)
                self.assertIs(is_known_tree(bent, saying, EMPTY, drawn.world(lists)), due, (saying, lists, bent))
        self.assertTrue(right > 40 and wrongs > 200, (right, wrongs))

    def bent(self, draw, tree, many, length):
        """A tree with one of its nodes changed."""
        if tree[0] == "legs":
            legs = tree[1]
            return draw.choice([("legs", legs[1:]), ("legs", legs[::-1]), ("legs", [sum(legs, [])]),
                                ("legs", [leg[::-1] for leg in legs]), ("legs", [[bound] for leg in legs for bound in leg]),
                                ("legs", [[(first, second, most - 1) for first, second, most in leg] for leg in legs]),
                                ("rest", draw.randrange(many), [tree] * length), ("pair", 0, 1, tree, tree, tree)])
        if tree[0] == "rest":
            trees = tree[2]
            at = draw.randrange(len(trees))
            return draw.choice([("rest", tree[1], trees[:-1]), ("rest", tree[1], trees + trees[:1]),
                                ("rest", draw.randrange(many), trees), ("rest", tree[1], trees[1:] + trees[:1]),
                                ("rest", tree[1], trees[:at] + [self.bent(draw, trees[at], many, length)] + trees[at + 1:]),
                                ("rest", tree[1], [tree] * len(trees)), trees[at]])
        places = [at for at, part in enumerate(tree) if isinstance(part, tuple)]
        at = draw.choice(places)
        return draw.choice([tree[:at] + (self.bent(draw, tree[at], many, length),) + tree[at + 1:], tree[at],
                            tree[:at] + (("rest", draw.randrange(many), [tree[at]] * length),) + tree[at + 1:]])

    def rest_tree(self):
        """A tree of the saying that begins with a rest, and the day that is split."""
        saying = le(on("c", X), add(1, X))
        paper = known_tree(saying, EMPTY, EVEN)
        return saying, paper

    def test_rest_nodes_by_hand(self):
        saying = le(("late", on("c", X), X), ("late", ("soon", on("c", X), add(1, X)), X))
        # The saying holds for all by the leads of the table; so a tree may split rests in vain.
        plain = known_tree(saying, EMPTY, EVEN)
        read = slowknown.read_days(saying, {"c": [0, 2]})
        self.assertEqual(read, [1])
        once = ("rest", 1, [plain, plain])
        judge = slowknown.Judge(saying, [], [], {"c": [0, 2]})
        for tree, due in ((once, True), (("rest", 1, (plain, plain)), True), (("rest", 1, [once, plain]), False),
                          (("rest", 1, [plain, once]), False), (("rest", 1, [plain]), False), (("rest", 1, []), False),
                          (("rest", 1, [plain, plain, plain]), False), (("rest", 0, [plain, plain]), False),
                          (("rest", 2, [plain, plain]), False), (("rest", 1, plain, plain), False),
                          (("rest", 1, {0: plain, 1: plain}), False), (("rest", True, [plain, plain]), False),
                          (("rest", -1, [plain, plain]), False), (("rest", 99, [plain, plain]), False),
                          (("rest", "1", [plain, plain]), False), (("rest", 1), False), (("rest", 1, None), False)):
            if due or tree[1] == 1 and tree[1] is not True and len(tree) == 3 and isinstance(tree[2], list):
                self.assertIs(judge.is_known_tree(tree), due)
            self.assertIs(is_known_tree(tree, saying, EMPTY, EVEN), due, tree)

    def test_rests_within_splits_and_splits_within_rests(self):
        saying = ("and", calendar_cases.even(), le(on("a", X), on("a", add(1, X))))
        paper = known_tree(saying, EMPTY, EVEN)
        self.assertTrue(is_known_tree(paper, saying, EMPTY, EVEN))
        self.assertTrue({"or", "rest", "pair", "legs"} <= set(words(paper)), words(paper))
        read = slowknown.read_days(saying, {"c": [0, 2]})
        for day in read:
            # The day has no rest at the top, but further down it has: one of both is one too many.
            due = ("rest", day) not in [node[:2] for node in self.all_nodes(paper)]
            self.assertIs(is_known_tree(("rest", day, [paper, paper]), saying, EMPTY, EVEN), due)

    def test_pairs_within_rests_and_rests_within_pairs(self):
        """All splits are in vain here, so each one may stand wherever it may stand at all."""
        saying = ("or", le(X, add(1, X)), le(on("c", X), on("c", Y)))
        plain = known_tree(saying, EMPTY, EVEN)
        self.assertEqual(plain[0], "legs")
        first, second = slowknown.read_days(saying, {"c": [0, 2]})
        pair = ("pair", 0, 1, plain, plain, plain)
        rest = ("rest", first, [plain, plain])
        both = ("rest", second, [rest, plain])
        judge = slowknown.Judge(saying, [], [], {"c": [0, 2]})
        for tree, due in ((pair, True), (rest, True), (both, True), (("rest", first, [pair, pair]), True),
                          (("pair", 0, 1, rest, both, plain), True), (("pair", 0, 1, pair, rest, both), True),
                          (("rest", first, [both, plain]), False), (("rest", first, [("pair", 0, 1, plain, rest, plain), plain]), False),
                          (("pair", 1, 0, plain, plain, plain), False), (("pair", 0, 2, plain, plain, plain), False),
                          (("cross", 0, 1, plain, plain), False), (("or", plain, plain), False)):
            self.assertIs(judge.is_known_tree(tree), due)
            self.assertIs(is_known_tree(tree, saying, EMPTY, EVEN), due, tree)

    def all_nodes(self, tree):
        parts = tree[2] if tree[0] == "rest" else [part for part in tree[1:] if isinstance(part, tuple)]
        return [tree] if tree[0] == "legs" else [tree] + [node for part in parts for node in self.all_nodes(part)]

    def test_rings_are_no_leaves(self):
        saying = le(X, add(1, X))
        ring = [(2, 1, -1), (1, 2, -1)]
        self.assertIs(is_known_tree(("legs", [ring]), saying, EMPTY, EVEN), True)
        self.assertIs(is_known_tree(("legs", [tuple(ring)]), saying, EMPTY, {}), True)
        for value in (("ring", ring), ("legs", ring), ("legs", [ring], []), ("legs", [[]]), ("legs", []), ("legs",),
                      ("legs", [ring, ring]), ["legs", [ring]], ("legs", {0: ring}), ("legs", [[list(bound) for bound in ring]])):
            self.assertIs(is_known_tree(value, saying, EMPTY, EVEN), False)

    def test_legs_of_days_with_rests_alone(self):
        """Several legs need rests at their ends, which the way down must have brought."""
        paper = known_tree(self.SAYING, EMPTY, EVEN)
        several = [legs for legs in all_legs(paper) if len(legs) > 1]
        self.assertTrue(several)
        for legs in several:
            self.assertIs(self.judged(("legs", legs)), False)

    def test_day_zero_has_its_rest(self):
        """Day 0 stands at the ends of legs without a rest node, read or not."""
        for saying in (le(on("c", ("num", 3)), ("num", 4)), le(on("c", ZERO), ZERO)):
            paper = known_tree(saying, EMPTY, EVEN)
            self.assertTrue(is_known_tree(paper, saying, EMPTY, EVEN))
        saying = ("or", le(on("c", X), ZERO), le(("num", 2), on("c", X)))
        paper = known_tree(saying, EMPTY, EVEN)
        ends = {leg[0][0] for legs in all_legs(paper) if len(legs) > 1 for leg in legs}
        self.assertIn(0, ends)
        self.assertNotIn(("rest", 0), [node[:2] for node in self.all_nodes(paper)])

    def test_pairs_of_places_of_calendars(self):
        saying = le(on("c", X), on("c", add(1, X)))
        self.assertIn("pair", words(known_tree(saying, EMPTY, {"c": Table([0, 7, 7, 7, 7, 7, 7, 7])})))

    def test_any_value(self):
        for value in wrong.ANYTHING:
            self.assertIs(self.judged(value), False)
            for node in (("rest", 1, [value, value]), ("legs", value), ("legs", [value]), ("or", value, value)):
                self.assertIs(self.judged(node), False)
        knot = []
        knot.append(("rest", 1, knot))
        self.assertIs(self.judged(("rest", 1, knot)), False)

    def test_deep_and_wide(self):
        """A tree of very many rests, all in vain but one."""
        saying = ("and", le(on("d", on("c", X)), add(1, X)), le(X, X))
        paper = known_tree(saying, EMPTY, FORTNIGHT)
        self.assertIs(is_known_tree(paper, saying, EMPTY, FORTNIGHT), True)
        self.assertLess(nodes(paper), 400)


class KnownBreaks(unittest.TestCase):
    BOOK = Book([("a", 0, 2)], [("quick", "a", "b")])
    SAYING = le(on("c", on("a", X)), add(1, Y))

    def judged(self, value, saying=None):
        return is_known_break(value, saying or self.SAYING, self.BOOK, EVEN)

    def test_judged(self):
        self.assertIs(self.judged(({"x": 1, "y": 1}, {"a": [(1, 3)]})), True)
        self.assertIs(self.judged(({"x": 1, "y": 3}, {"a": [(1, 3)]})), False)
        self.assertIs(self.judged(({"x": 1, "y": 2}, {"a": [(1, 3)]})), True)
        self.assertIs(self.judged(({"x": 0, "y": 0}, {})), True)
        self.assertIs(self.judged(({"x": 0, "y": 0, "z": 9}, {"a": (), "b": [(0, 2)]})), True)

    def test_rules_of_calendars(self):
        """A key that is a rule of the calendars, also without answers; other rules may be there."""
        for answers in ({"c": []}, {"c": [(3, 4)]}, {"a": [(1, 3)], "c": [(3, 4)]}):
            self.assertIs(self.judged(({"x": 1, "y": 1}, answers)), False)
        self.assertIs(self.judged(({"x": 1, "y": 1}, {"a": [(1, 3)], "d": [(3, 4)]})), True)

    def test_clashes_and_names(self):
        for value in (({"x": 1}, {"a": [(1, 3)]}), ({"y": 1}, {"a": [(1, 3)]}), ({"x": 1, "y": 1}, {"a": [(1, 1)]}),
                      ({"x": 1, "y": 1}, {"a": [(1, 3)], "b": [(1, 2)]}), [{"x": 1, "y": 1}, {}]):
            self.assertIs(self.judged(value), False)
        for value in wrong.ANYTHING:
            self.assertIs(self.judged(value), False)

    def test_slow_reckoning(self):
        found = {True: 0, False: 0}
        for draw, lists, hidden, log, promises, saying in drawn_cases(340, 300):
            days, answers = drawn.days(draw, "xy"), drawn.answers(draw, draw.choice(("ab", "ab", "abc")), 2)
            due = slowknown.is_known_break((days, answers), saying, log, promises, lists)
            found[due] += 1
            calendars, book = drawn.world(lists), Book(log, promises)
            self.assertIs(is_known_break((days, answers), saying, book, calendars), due)
            if slow.clash(answers, log, promises) is None and not any(rule in answers for rule in lists):
                self.assertIs(known_holds((days, answers), book, calendars, saying), not due)
        self.assertTrue(min(found.values()) > 30, found)

    def test_names_and_rules_of_what_is_told(self):
        """A told break has just the days of the saying's names, and no rule of the calendars."""
        picture = known_broken(le(on("c", on("b", ("day", "z"))), on("a", ("day", "p"))), self.BOOK, EVEN)
        self.assertEqual((sorted(picture[0]), sorted(picture[1])), (["p", "z"], ["a", "b"]))


class Values(unittest.TestCase):
    PICTURE = ({"x": 3, "y": 0}, {"a": [(3, 5)]})

    def test_values(self):
        book = Book([("a", 7, 9)], [])
        values = [known_value(self.PICTURE, book, EVEN, formula) for formula in (
            X, on("c", X), on("a", on("c", X)), on("c", on("a", X)), ("by", "c", X), ("til", "c", on("a", X)),
            ("late", ("num", 3), on("c", add(2, Y))))]
        self.assertEqual(values, [3, 4, laid_value(self.PICTURE, book, on("a", ("num", 4))), 6, 3, 4, 3])

    def test_the_laid_rules_of_the_book(self):
        """The others are laid as without calendars, these being no part of the book or of the picture."""
        draw = random.Random(341)
        checked = 0
        for draw, lists, hidden, log, promises, saying in drawn_cases(342, 200):
            days, answers = drawn.days(draw, "xy"), drawn.answers(draw, "ab", 2)
            if slow.clash(answers, log, promises) is not None:
                continue
            checked += 1
            told = drawn.formula(draw, 3, "xy", "abcd")
            calendars = {"d": [2], **lists}

            def served(rule, day):
                return slowknown.known_on(answers, log, promises, calendars, rule, day)

            self.assertEqual(known_value((days, answers), Book(log, promises), drawn.world(calendars), told),
                             slowknown.known_day(told, days, served))
            self.assertIs(known_holds((days, answers), Book(log, promises), drawn.world(calendars), saying),
                          slowknown.known_holds(saying, days, served))
        self.assertGreater(checked, 60)

    def test_refused(self):
        clashing = ({"x": 3}, {"a": [(3, 9), (4, 8)]})
        with_known = ({}, {"a": [(3, 5)], "c": []})
        book = Book([("c", 0, 1)], [])
        for call, error, told, long in ((known_value, InvalidFormula, on("c", X), tower(70)),
                                        (known_holds, InvalidSaying, le(X, on("c", X)), nots(70))):
            for value in wrong.NOT_PICTURES + [clashing]:
                check_refused(self, InvalidPicture, value, lambda: call(value, EMPTY, None, None))
            check_refused(self, InvalidWorld, None, lambda: call(with_known, EMPTY, None, None))
            for value in (wrong.NOT_FORMULAS if call is known_value else wrong.NOT_SAYINGS):
                check_refused(self, error, value, lambda: call(with_known, book, dict(EVEN, **FAR), value))
            check_missing(self, KnownRule, "rule", "c", lambda: call(({}, {"a": []}), book, dict(FAR, d=Table([0])), long))
            check_refused(self, InvalidPicture, with_known, lambda: call(with_known, EMPTY, FAR, long))
            check_missing(self, MissingName, "name", "x", lambda: call(({"y": 1}, {}), EMPTY, FAR, told))
            check_too_many(self, "length", 14, lambda: call(({"x": 1}, {}), EMPTY, FAR, long if call is known_value else told))
        check_too_many(self, "pieces", 60, lambda: known_value(self.PICTURE, EMPTY, EVEN, tower(60)))
        self.assertEqual(known_value(self.PICTURE, EMPTY, EVEN, tower(59)), laid_value(self.PICTURE, EMPTY, tower(59)))
        check_too_many(self, "pieces", 60, lambda: known_holds(self.PICTURE, EMPTY, EVEN, nots(58)))
        self.assertIn(known_holds(self.PICTURE, EMPTY, EVEN, nots(57)), (True, False))


class ToldOut(unittest.TestCase):
    def test_on_by_and_til(self):
        """What is asked of calendars' rules and of others, within one another."""
        saying = le(on("a", ("by", "c", X)), ("til", "b", ("til", "c", on("c", Y))))
        picture = ({"x": 3, "y": 0, "z": 8}, {"a": [(3, 9)], "b": [(5, 6)], "d": [(0, 0)]})
        self.assertIs(is_known_break(picture, saying, EMPTY, EVEN), True)
        days, answers = told_out(picture, saying, EMPTY, EVEN)
        self.assertEqual(days, {"x": 3, "y": 0, "z": 8})
        # by of 3 is 1 (served on 2) .. c serves on 4 from day 3 on: by comes to 3, and is asked on 2 as well.
        self.assertEqual(answers["c"], [(0, 0), (1, 2), (2, 2), (3, 4)])
        self.assertEqual(answers["a"], [(3, 9)])
        self.assertEqual(sorted(answers), ["a", "b", "c"])
        self.assertIs(is_break((days, answers), saying, EMPTY), True)

    def test_slow_reckoning(self):
        checked = 0
        for draw, lists, hidden, log, promises, saying in drawn_cases(350, 300, 2, 3):
            book, calendars = Book(log, promises), drawn.world(lists)
            picture = known_broken(saying, book, calendars)
            if picture is None:
                continue
            checked += 1
            picture = (dict(picture[0], z=draw.randint(-3, 3)), picture[1])

            def served(rule, day):
                return slowknown.known_on(picture[1], log, promises, lists, rule, day)

            out = told_out(picture, saying, book, calendars)
            self.assertEqual(out, (picture[0], slowknown.asked_of(saying, picture[0], served)))
            self.assertIs(is_break(out, saying, book), True)
            self.assertEqual(verdict(saying, book), "breaks")
        self.assertGreater(checked, 150)

    def test_refused(self):
        saying = le(on("c", X), X)
        picture = ({"x": 1}, {})
        self.assertEqual(told_out(picture, saying, EMPTY, EVEN), ({"x": 1}, {"c": [(1, 2)]}))
        book = Book([("c", 0, 1)], [])
        check_refused(self, InvalidSaying, None, lambda: told_out(None, None, book, None))
        check_refused(self, InvalidWorld, None, lambda: told_out(None, saying, book, None))
        for value in wrong.NOT_PICTURES + [({"x": 0}, {}), ({}, {}), ({"x": 1}, {"c": []}), ({"x": 1}, {"a": [(0, 3), (1, 2)]})]:
            check_missing(self, KnownRule, "rule", "c", lambda: told_out(value, saying, book, FAR))
            check_refused(self, InvalidPicture, value, lambda: told_out(value, saying, EMPTY, EVEN))
        # Ahead of TooMany: a picture that breaks nothing; behind it one that breaks the saying.
        check_refused(self, InvalidPicture, None, lambda: told_out(None, saying, EMPTY, FAR))
        check_too_many(self, "length", 14, lambda: told_out(picture, le(X, on("c", X)), EMPTY, FAR))
        long = ("not", nots(58)) if is_known_break(picture, ("not", le(X, X)), EMPTY, {}) else None
        check_too_many(self, "pieces", 60, lambda: told_out(({name: 0 for name in "pqrstuvwxyz"}, {}), ("and", le(add(1, X), X), nots(60)), EMPTY, EVEN))
        self.assertIsNotNone(long)


class Sureness(unittest.TestCase):
    def test_sureness(self):
        saying = le(on("c", X), ("num", 7))
        self.assertEqual([known_sureness(saying, EMPTY, WEEK, {"x": day}) for day in (-3, 0, 7, 8, 20)],
                         ["sure", "sure", "sure", "never", "never"])
        self.assertEqual(known_sureness(saying, EMPTY, WEEK, {}), "maybe")
        self.assertEqual(known_sureness(saying, EMPTY, WEEK, {"y": 3}), "maybe")
        self.assertEqual(known_sureness(le(X, on("c", X)), EMPTY, WEEK, {}), "sure")
        self.assertEqual(known_sureness(("not", le(X, on("c", X))), EMPTY, WEEK, {}), "never")
        book = Book([("a", 3, 9)], [])
        self.assertEqual([known_sureness(le(on("c", on("a", X)), ("num", 14)), book, WEEK, {"x": day}) for day in (3, 4)],
                         ["sure", "maybe"])

    def test_both_verdicts(self):
        found = {}
        for draw, lists, hidden, log, promises, saying in drawn_cases(360, 250):
            book, calendars = Book(log, promises), drawn.world(lists)
            days = {name: draw.randint(-4, 6) for name in "xyz" if draw.random() < 0.7}
            told = saying
            for name, day in days.items():
                told = put(told, name, ("num", day))
            verdicts = known_verdict(told, book, calendars), known_verdict(("not", told), book, calendars)
            due = {("all", "breaks"): "sure", ("breaks", "all"): "never", ("breaks", "breaks"): "maybe"}[verdicts]
            found[due] = found.get(due, 0) + 1
            self.assertEqual(known_sureness(saying, book, calendars, days), due)
            # Rules that are in no calendar and have no hidden list may be any.
            truth = slow.holds(saying, dict(drawn.days(draw, "xyz"), **days), {"c": [1], "d": [0], **lists, **hidden})
            self.assertTrue(due == "maybe" or truth is (due == "sure"))
        self.assertTrue(len(found) == 3 and min(found.values()) > 20, found)

    def test_refused(self):
        book = Book([("c", 0, 1), ("c", 0, 2)], [])
        check_refused(self, InvalidSaying, None, lambda: known_sureness(None, book, None, None))
        check_refused(self, InvalidWorld, None, lambda: known_sureness(nots(70), book, None, None))
        for value in wrong.NOT_DAY_DICTS:
            check_refused(self, InvalidDays, value, lambda: known_sureness(nots(70), book, FAR, value))
        check_missing(self, KnownRule, "rule", "c", lambda: known_sureness(nots(70), book, FAR, {}))
        check_broken(self, lambda: known_sureness(nots(70), BROKEN, {"h": Table([0] * 15)}, {}))
        check_too_many(self, "length", 14, lambda: known_sureness(nots(70), EMPTY, FAR, {}))
        check_too_many(self, "pieces", 60, lambda: known_sureness(nots(57), EMPTY, EVEN, {}))
        self.assertIn(known_sureness(nots(56), EMPTY, EVEN, {}), ("sure", "never", "maybe"))


class Periods(unittest.TestCase):
    def test_period_rows(self):
        self.assertEqual(period_rows("a", Table([0, 2]), -1, 4), [("a", -1, 0), ("a", 0, 0), ("a", 1, 2), ("a", 2, 2)])
        self.assertEqual(period_rows("h", Table([5]), 3, 0), [])
        self.assertEqual(period_rows("a", WEEK["c"], 10 ** 6, 30), [("a", 10 ** 6 + more, WEEK["c"].on(10 ** 6 + more))
                                                                    for more in range(30)])

    def test_refused(self):
        errors = (("rule", wrong.NOT_RULES, "InvalidRule"), ("day", wrong.NOT_DAYS, "InvalidDay"),
                  ("many", wrong.NOT_COUNTS, "InvalidCount"))
        for at, (name, values, error) in enumerate(errors):
            for value in values:
                told = {"rule": "a", "day": 0, "many": 1, name: value}
                told.update({later: None for later, _, _ in errors[at + 1:]})
                found = raised(lambda: period_rows(table=WEEK["c"], **told))
                self.assertEqual(found.__class__.__name__, error)
                self.assertIs(found.value, value)


class Facts(unittest.TestCase):
    def test_what_holds_without_calendars_holds_with_them(self):
        held = 0
        for draw, lists, hidden, log, promises, saying in drawn_cases(370, 300):
            book = Book(log, promises)
            if verdict(saying, book) == "all":
                held += 1
                self.assertEqual(known_verdict(saying, book, drawn.world(lists)), "all")
            self.assertEqual(known_verdict(saying, book, {}), verdict(saying, book))
        self.assertGreater(held, 30)

    def test_what_holds_with_a_period_holds_with_the_calendar(self):
        held = 0
        for draw, lists, hidden, log, promises, saying in drawn_cases(371, 250):
            book, table = Book(log, promises), Table(lists["c"] if "c" in lists else lists["d"])
            rule = "c" if "c" in lists else "d"
            rows = period_rows(rule, table, draw.randint(-6, 3), draw.randint(1, 12))
            if verdict(saying, Book(log + rows, promises)) == "all":
                held += 1
                self.assertEqual(known_verdict(saying, book, {rule: table}), "all")
        self.assertGreater(held, 30)

    def test_greater_lengths(self):
        """A table told in a greater length changes nothing."""
        checked = 0
        for lists, saying, truth in tight_cases(372, 60, ((2,), (3,), (1, 2), (7,))):
            calendars = drawn.world(lists)
            for count in (2, 3, 4):
                if slowknown.length_of(lists) * count <= 14:
                    checked += 1
                    longer = dict(calendars, c=calendars["c"].stretched(count))
                    self.assertEqual(known_verdict(saying, EMPTY, longer), "all" if truth else "breaks")
        self.assertGreater(checked, 100)

    def test_sureness_without_calendars(self):
        for draw, lists, hidden, log, promises, saying in drawn_cases(373, 100):
            days = {"x": draw.randint(-4, 4)}
            self.assertEqual(known_sureness(saying, Book(log, promises), {}, days), sureness(saying, Book(log, promises), days))


class Refused(unittest.TestCase):
    def test_errors(self):
        book = Book([("c", 0, 1)], [])
        calls = (known_verdict, known_tree, known_broken, lambda *told: is_known_tree(None, *told),
                 lambda *told: is_known_break(None, *told))
        for call in calls:
            for value in wrong.NOT_SAYINGS:
                check_refused(self, InvalidSaying, value, lambda: call(value, book, None))
            for value in wrong.NOT_WORLDS:
                check_refused(self, InvalidWorld, value, lambda: call(nots(70), book, value))
            check_missing(self, KnownRule, "rule", "c", lambda: call(nots(70), book, FAR))
            check_too_many(self, "length", 14, lambda: call(nots(70), EMPTY, FAR))
            check_too_many(self, "length", 14, lambda: call(nots(3), EMPTY, {"c": Table.plain(3), "d": Table.plain(5)}))
            check_too_many(self, "pieces", 60, lambda: call(nots(58), EMPTY, EVEN))
            call(nots(57), EMPTY, {"c": Table.plain(14)})

    def test_broken_book_is_no_error(self):
        self.assertIsNot(raised(lambda: known_verdict(le(X, X), BROKEN, {"h": Table([0])})).__class__, BrokenBook)


class Limits(unittest.TestCase):
    """Where TooMany("nodes", 4000) may never come."""

    def test_two_places_and_nothing_to_choose(self):
        draw = random.Random(380)
        fortnight = drawn.list_of_days(draw, 14, 20)
        checked = 0
        while checked < 250:
            lists = {"c": drawn.list_of_days(draw, 14, 9), "d": drawn.list_of_days(draw, draw.choice((2, 7, 14)), 9)}
            lists["c"] = draw.choice([lists["c"], fortnight])
            log = [drawn.row(draw, "ab") for _ in range(draw.randint(0, 1))]
            saying = ("le", self.chain(draw), self.chain(draw))
            saying = ("not", saying) if draw.random() < 0.4 else saying
            judge = slowknown.Judge(saying, log, [], lists)
            if len(judge.places) <= 2:
                checked += 1
                book, calendars = Book(log, []), drawn.world(lists)
                paper, picture = known_tree(saying, book, calendars), known_broken(saying, book, calendars)
                self.assertIsNot(paper is None, picture is None)

    def chain(self, draw):
        """A formula without late and soon, of few rules."""
        told = draw.choice((X, Y, ("num", draw.randint(-9, 9))))
        for _ in range(draw.randint(0, 3)):
            word = draw.choice(("on", "add", "add", "by", "til"))
            told = (word, draw.randint(-20, 20) if word == "add" else draw.choice("cda"), told)
        return told

    def test_served_days_that_never_meet(self):
        """Two read days of fourteen rests each, no two of which go together: all must be tried."""
        lists = [14 * (day // 14) for day in range(1, 14)] + [14]
        calendars = {"c": Table(lists), "d": Table([day + 5 for day in lists])}
        saying = ("or", le(on("c", X), on("d", Y)), le(add(5, on("d", Y)), on("c", X)))
        self.assertEqual(known_verdict(saying, EMPTY, calendars), "all")


if __name__ == "__main__":
    unittest.main()
