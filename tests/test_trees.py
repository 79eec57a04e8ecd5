"""Trees: told ones, their judge, their nodes, and shorter ones."""

import random
import unittest

from leadrules.books import Book
from leadrules.daylists import days_of, places_of
from leadrules.errors import InvalidSaying, InvalidTree
from leadrules.leastways import ring_of
from leadrules.trees import is_spare, is_tree, rings, shorter, size, tree
from tests import drawn, known_books, slow, slowtrees, wrong
from tests.test_bounds import many_les
from tests.test_sayings import nots
from tests.wrong import check_refused, check_too_many

X, Y = ("day", "x"), ("day", "y")
ZERO = ("num", 0)
EMPTY = Book([], [])


def le(first, second):
    return ("le", first, second)


# Of each kind of node: a saying, a log, promises and a tree that needs the node at its top.
LATER = ("ring", [(2, 1, -1), (1, 2, -1)])
KINDS = {
    "ring": (le(X, ("add", 1, X)), [], [], LATER),
    "or": (("and", le(X, ("add", 1, X)), le(X, ("add", 2, X))), [], [],
           ("or", ("ring", [(1, 2, -1), (2, 1, -1)]), ("ring", [(3, 1, -1), (1, 3, -2)]))),
    "late": (le(("late", X, Y), ("late", Y, X)), [], [],
             ("late", 3, ("ring", [(3, 1, 0), (1, 4, 0), (4, 3, -1)]), ("ring", [(3, 2, 0), (2, 4, 0), (4, 3, -1)]))),
    "soon": (le(("soon", X, Y), ("soon", Y, X)), [], [],
             ("soon", 4, ("ring", [(4, 3, -1), (3, 2, 0), (2, 4, 0)]), ("ring", [(4, 3, -1), (3, 1, 0), (1, 4, 0)]))),
    "pair": (le(("on", "a", X), ("on", "a", ("add", 1, X))), [], [],
             ("pair", 0, 1, ("ring", [(2, 4, 0), (4, 2, -1)]), ("ring", [(2, 4, 0), (4, 2, -1)]),
              ("ring", [(3, 1, -1), (1, 3, -1)]))),
    "cross": (le(("on", "a", X), ("on", "b", X)), [], [("quick", "a", "b")],
              ("cross", 0, 1, ("ring", [(2, 3, 0), (3, 2, -1)]), ("ring", [(1, 1, -1)]))),
}


def spoilt(node):
    """A tree with one of its words or numbers spoilt, each at a time, its form kept."""
    if node[0] == "ring":
        for at, (first, second, most) in enumerate(node[1]):
            for bound in ((first + 1, second, most), (first, second + 1, most), (first, second, most + 1),
                          (first, second, most - 1)):
                yield ("ring", node[1][:at] + [bound] + node[1][at + 1:])
        yield ("ring", [])
        for at in range(len(node[1])):
            yield ("ring", node[1][:at] + node[1][at + 1:])
        return
    parts = [part for part in node[1:] if isinstance(part, tuple)]
    numbers = list(node[1:len(node) - len(parts)])
    for word in {2: ("or", "late", "soon", "cross"), 3: ("pair",)}[len(parts)]:
        many = {"or": 0, "late": 1, "soon": 1}.get(word, 2)
        if word != node[0]:
            yield (word, *(numbers + [1, 2])[:many], *parts)
    for at in range(len(numbers)):
        for more in (-1, 1, 50):
            if numbers[at] + more >= 0:
                yield (node[0], *numbers[:at], numbers[at] + more, *numbers[at + 1:], *parts)
    yield (node[0], *numbers[::-1], *parts)
    yield (node[0], *numbers, *parts[::-1])
    for at, part in enumerate(parts):
        for other in spoilt(part):
            yield (node[0], *numbers, *parts[:at], other, *parts[at + 1:])


class Judge(unittest.TestCase):
    def check(self, value, saying, log, promises, due):
        self.assertIs(slowtrees.Judge(saying, log, promises).is_tree(value), due, value)
        self.assertIs(is_tree(value, saying, Book(log, promises)), due, value)

    def test_each_kind_of_node(self):
        for word, (saying, log, promises, paper) in KINDS.items():
            with self.subTest(word=word):
                self.assertEqual(paper[0], word)
                self.check(paper, saying, log, promises, True)
                self.assertIs(is_spare(paper, saying, Book(log, promises)), True)

    def test_spoilt_ones(self):
        """The words and numbers of each kind of node, spoilt one at a time: judged as by the slow judge."""
        for word, (saying, log, promises, paper) in KINDS.items():
            with self.subTest(word=word):
                wrongs = [value for value in spoilt(paper) if value != paper]
                judge = slowtrees.Judge(saying, log, promises)
                truths = [judge.is_tree(value) for value in wrongs]
                for value, due in zip(wrongs, truths):
                    self.assertIs(is_tree(value, saying, Book(log, promises)), due, value)
                self.assertGreater(truths.count(False), 8)
                self.assertLess(truths.count(True), 3)

    def test_rings(self):
        saying, book = KINDS["ring"][0], EMPTY
        for ring in ([(1, 2, -1), (2, 1, -1)], ((2, 1, -1), (1, 2, -1)), [(2, 1, -1), (1, 2, -1)] * 2,
                     [(2, 1, 1), (1, 2, -1), (2, 1, -1), (1, 2, -1)]):
            self.assertIs(is_tree(("ring", ring), saying, book), True)
        # Not closed, not joined, its sum not below 0, empty, of bounds that are not in force.
        for ring in ([(2, 1, -1)], [(2, 1, -1), (2, 1, -1)], [(2, 1, 1), (1, 2, -1)], [], [(2, 1, -2), (1, 2, -1)],
                     [(0, 0, -1)], [(5, 5, -1)], [(1, 2, -1), (2, 1, -1), (0, 0, 0)]):
            self.assertIs(is_tree(("ring", ring), saying, book), False)

    def test_a_ring_of_one_bound(self):
        self.assertIs(is_tree(("ring", [(1, 1, -1)]), le(X, X), EMPTY), True)
        torn = Book([], [("lead", "a", 5, 3)])
        self.assertIs(is_tree(("ring", [(0, 0, -2)]), ("not", le(X, X)), torn), True)
        self.assertIs(is_tree(("ring", [(0, 0, -1)]), ("not", le(X, X)), torn), False)
        self.assertEqual(tree(("not", le(X, X)), torn), ("ring", [(0, 0, -2)]))

    def test_ways_are_in_force_below_alone(self):
        saying, log, promises, paper = KINDS["late"]
        # Each way's ring in the place of the other one, and at the top.
        self.assertIs(is_tree(("late", 3, paper[3], paper[2]), saying, EMPTY), False)
        self.assertIs(is_tree(paper[2], saying, EMPTY), False)
        # Way bounds that are none of these.
        self.assertIs(is_tree(("late", 4, paper[2], paper[3]), saying, EMPTY), False)

    def test_splits_that_are_split_again(self):
        saying, log, promises, paper = KINDS["late"]
        again = ("late", 3, ("late", 3, paper[2], paper[3]), paper[3])
        self.check(again, saying, log, promises, True)
        self.assertIs(is_spare(again, saying, EMPTY), False)
        self.check(("late", 4, paper, paper), saying, log, promises, True)

    def test_ors_in_sequence(self):
        # Two ors wait; the second one alone gives rings.
        first, second = le(X, Y), le(Y, X)
        saying = ("or", ("and", first, second), ("and", le(X, ("add", 1, X)), le(Y, ("add", 1, Y))))
        self.assertEqual(days_of(saying), [ZERO, X, Y, ("add", 1, X), ("add", 1, Y)])
        below = ("or", ("ring", [(1, 3, -1), (3, 1, -1)]), ("ring", [(2, 4, -1), (4, 2, -1)]))
        self.check(below, saying, [], [], False)
        self.check(("or", below, below), saying, [], [], True)
        self.check(("or", ("or", below, below), below), saying, [], [], False)

    def test_ors_opened_wait_behind_the_others(self):
        inner = ("or", le(("add", 1, X), X), le(("add", 2, X), X))
        # The contrary of the saying: (inner or inner), and (y <= x or x <= y).
        saying = ("not", ("and", ("or", inner, inner), ("or", le(Y, X), le(X, Y))))
        self.assertEqual(days_of(saying)[:5], [ZERO, X, ("add", 1, X), ("add", 2, X), Y])
        end = ("or", ("ring", [(2, 1, 0), (1, 2, -1)]), ("ring", [(3, 1, 0), (1, 3, -2)]))
        # Once one inner is opened, the other or that waited is first, and inner behind it.
        self.check(("or", ("or", end, end), ("or", end, end)), saying, [], [], True)
        self.check(("or", end, end), saying, [], [], False)
        self.check(("or", ("or", end, end), end), saying, [], [], False)

    def test_numbers_of_places(self):
        saying, log, promises, paper = KINDS["pair"]
        self.assertEqual(places_of(saying, EMPTY), [("a", 1, 0, 2, 0), ("a", 3, 0, 4, 0)])
        for i, j in ((1, 0), (0, 0), (1, 1), (0, 2), (2, 3), (0, 10 ** 12)):
            self.assertIs(is_tree(("pair", i, j) + paper[3:], saying, EMPTY), False)
        # The ways of these would be right, but i is not less than j.
        self.assertIs(is_tree(("pair", 1, 0) + paper[:2:-1], saying, EMPTY), False)
        for i, day in ((0, 1), (1, 3)):
            never = ("ring", [(day, day, -1)])
            self.assertIs(is_tree(("pair", i, i, never, paper, never), saying, EMPTY), False)
        # A pair is of one rule, a cross of unlike ones, the first one beneath the other.
        two = le(("on", "a", X), ("on", "b", X))
        crossed = KINDS["cross"][3]
        self.assertIs(is_tree(crossed, two, Book([], [("quick", "a", "b")])), True)
        for promises in ([], [("quick", "b", "a")], [("quick", "a", "c")]):
            self.assertIs(is_tree(crossed, two, Book([], promises)), False)
        self.assertIs(is_tree(crossed, two, Book([], [("quick", "a", "c"), ("quick", "c", "b")])), True)
        self.assertIs(is_tree(("cross", 1, 0) + crossed[3:], two, Book([], [("quick", "a", "b")])), False)
        paired = ("pair", 0, 1, crossed[3], crossed[3], crossed[4])
        self.assertIs(is_tree(paired, two, Book([], [("quick", "a", "b")])), False)

    def test_rows_as_places(self):
        book = Book([("a", 3, 7), ("a", 5, 6)], [])
        row = ("ring", [(0, 0, -1)])
        # p <= q - 1 and P <= Q; p = q and P = Q; q <= p - 1 and Q <= P: none of them is so.
        paper = ("pair", 0, 1, row, ("ring", [(0, 0, -2)]), ("ring", [(0, 0, -3)]))
        self.assertIs(is_tree(paper, le(ZERO, ZERO), book), True)
        self.assertIs(is_tree(("pair", 0, 1, ("ring", [(0, 0, -2)]), row, row), le(ZERO, ("num", 0)), book), False)
        self.assertIs(is_tree(("pair", 0, 1, row, row, row), ("not", le(ZERO, ZERO)), book), False)

    def test_wrong_values(self):
        saying, log, promises, paper = KINDS["pair"]
        for value in wrong.ANYTHING:
            self.assertIs(is_tree(value, saying, EMPTY), False)
        self.assertIs(is_tree(("pair", False, True) + paper[3:], saying, EMPTY), False)
        self.assertIs(is_tree(("pair", 0, 1) + paper[3:5] + (list(paper[5]),), saying, EMPTY), False)
        self.assertIs(is_tree(list(paper), saying, EMPTY), False)
        true_ring = ("ring", [(2, True, -1), (1, 2, -1)])
        self.assertIs(is_tree(true_ring, KINDS["ring"][0], EMPTY), False)

    def test_deep_values(self):
        value = LATER
        for _ in range(20000):
            value = ("or", value, LATER)
        self.assertIs(is_tree(value, KINDS["ring"][0], EMPTY), False)
        self.assertIs(is_tree(("or", value, 3), KINDS["ring"][0], EMPTY), False)
        self.assertEqual(size(value), 40001)


def drawn_sayings(seed, many, rules="ab", rows=3, promises=3, depth=2, inner=2):
    """Sayings of at most 60 pieces beside books, some of which no rules keep."""
    draw = random.Random(seed)
    found = 0
    while found < many:
        log = [drawn.row(draw, rules) for _ in range(draw.randint(0, rows))]
        told = [drawn.promise(draw, rules) for _ in range(draw.randint(0, promises))]
        saying = drawn.saying(draw, draw.randint(0, depth), inner, "xy", rules)
        if known_books.pieces(saying) <= 60:
            found += 1
            yield saying, log, told


def true_sayings(seed, many, rows=3):
    """Sayings that hold for all, by the facts of the first stages."""
    draw = random.Random(seed)
    for _ in range(many):
        asked_days = draw.sample(range(-3, 4), draw.randint(0, rows))
        log = [("a", asked, 2 * asked + draw.randint(0, 1)) for asked in asked_days]
        first, second = drawn.formula(draw, 2, "xy"), drawn.formula(draw, 2, "xy")
        rule = draw.choice("ab")
        yield draw.choice([
            le(first, ("late", second, first)), le(("soon", second, first), first),
            le(("on", rule, ("til", rule, first)), first), le(first, ("on", rule, ("by", rule, first))),
            le(first, ("til", rule, ("on", rule, first))), le(("by", rule, ("on", rule, first)), first),
            ("or", le(first, second), le(("on", rule, second), ("on", rule, first))),
            ("or", ("not", le(first, second)), le(("by", rule, first), ("by", rule, second))),
            le(("on", rule, ("late", first, second)), ("late", ("on", rule, second), ("on", rule, first))),
            le(("til", rule, ("soon", first, second)), ("soon", ("til", rule, second), ("til", rule, first))),
        ]), log, []


class Told(unittest.TestCase):
    def test_examples_of_each_kind(self):
        for word, (saying, log, promises, _) in KINDS.items():
            paper = tree(saying, Book(log, promises))
            self.assertTrue(slowtrees.Judge(saying, log, promises).is_tree(paper), word)

    def test_none_where_broken(self):
        for saying in (le(X, Y), le(("on", "a", X), X), ("not", le(X, X)), le(("num", 1), ZERO)):
            self.assertIsNone(tree(saying, EMPTY))

    def test_slow_judge(self):
        """Each told tree is one by the slow judge and by is_tree, and spoilt it is judged as by the slow judge."""
        told = 0
        for saying, log, promises in list(drawn_sayings(130, 400)) + list(true_sayings(131, 200)):
            paper = tree(saying, Book(log, promises))
            if paper is not None:
                told += 1
                judge = slowtrees.Judge(saying, log, promises)
                self.assertTrue(judge.is_tree(paper))
                self.assertIs(is_tree(paper, saying, Book(log, promises)), True)
                for value in list(spoilt(paper))[:40]:
                    self.assertIs(is_tree(value, saying, Book(log, promises)), judge.is_tree(value))
        self.assertGreater(told, 250)

    def test_true_sayings(self):
        for saying, log, promises in true_sayings(132, 200):
            self.assertIsNotNone(tree(saying, Book(log, promises)), saying)

    def test_pieces(self):
        self.assertEqual(tree(nots(57, ("not", le(X, X))[1]), EMPTY), None)
        # The contrary of this has more than sixty pieces, the saying has not.
        self.assertIsNone(tree(many_les(15), EMPTY))
        check_too_many(self, "pieces", 60, lambda: tree(nots(58), EMPTY))
        check_too_many(self, "pieces", 60, lambda: is_tree(LATER, nots(58), EMPTY))
        check_too_many(self, "pieces", 60, lambda: is_tree(None, nots(58), EMPTY))

    def test_many_nodes(self):
        """Nine formulas that are late or soon in another sequence: within the limit."""
        first = second = X
        for number in range(6):
            first, second = ("late", first, ("add", number, Y)), ("late", ("add", number, Y), second)
        paper = tree(le(first, second), EMPTY)
        self.assertTrue(slowtrees.Judge(le(first, second), [], []).is_tree(paper))

    def test_many_ors(self):
        """Of ors that wait only the first one can be split, also where it does not matter itself."""
        for saying in or_sayings(139, 400):
            paper = tree(saying, EMPTY)
            self.assertTrue(slowtrees.Judge(saying, [], []).is_tree(paper), saying)

    def test_an_or_behind_others_that_do_not_matter(self):
        apart = ("and", le(X, ("add", 1, X)), le(Y, ("add", 1, Y)))
        for many in (1, 2, 3):
            saying = apart
            for number in range(many):
                saying = ("or", ("and", le(X, ("add", number, Y)), le(Y, ("add", 3, X))), saying)
            paper = tree(saying, EMPTY)
            self.assertTrue(slowtrees.Judge(saying, [], []).is_tree(paper))


class Nodes(unittest.TestCase):
    def test_size_and_rings(self):
        self.assertEqual((size(LATER), rings(LATER)), (1, [[(2, 1, -1), (1, 2, -1)]]))
        self.assertEqual((size(("ring", ())), rings(("ring", ()))), (1, [[]]))
        other = ("ring", ((0, 0, -1),))
        paper = ("or", ("pair", 5, 3, LATER, ("ring", []), ("late", 9, other, LATER)), ("cross", 0, 0, other, other))
        self.assertEqual(size(paper), 10)
        self.assertEqual(rings(paper), [LATER[1], [], [(0, 0, -1)], LATER[1], [(0, 0, -1)], [(0, 0, -1)]])
        self.assertEqual(size(paper), slowtrees.nodes(paper))

    def test_formed_alone(self):
        # No saying has such a tree, but it is formed like one.
        for paper in (("ring", []), ("pair", 7, 2, LATER, LATER, LATER), ("late", 0, ("ring", [(9, 8, 7)]), LATER)):
            self.assertEqual(size(paper), slowtrees.nodes(paper))
        for value in wrong.NOT_TREES:
            for call in (size, rings):
                check_refused(self, InvalidTree, value, lambda: call(value))

    def test_slow_reckoning(self):
        for saying, log, promises in true_sayings(133, 100):
            paper = tree(saying, Book(log, promises))
            self.assertEqual((size(paper), rings(paper)), (slowtrees.nodes(paper), slowtrees.rings(paper)))


def or_sayings(seed, many):
    """Sayings that hold for all, the contrary of which has several ors that wait, one within the other or not."""
    draw = random.Random(seed)

    def end():
        told = draw.choice([X, Y, ZERO, ("late", X, Y), ("soon", Y, X)])
        return told if draw.random() < 0.4 else ("add", draw.randint(-2, 2), told)

    def part(depth):
        if depth == 0:
            return le(end(), end()) if draw.random() < 0.6 else ("not", le(end(), end()))
        return (draw.choice(["and", "or"]), part(depth - 1), part(depth - 1))

    def both():
        return ("and", part(draw.randint(0, 1)), part(draw.randint(0, 1)))

    found = 0
    while found < many:
        saying = ("or", both(), ("or", both(), both()))
        if known_books.pieces(saying) <= 60 and tree(saying, EMPTY) is not None:
            found += 1
            yield saying


def drawn_tree(draw, judge, force, waiting, depth):
    """A tree whose splits are drawn; None where it comes to no ring so."""
    ring = ring_of(len(judge.listed), sorted(force))
    heads = [(formula[0], number) for number, formula in enumerate(judge.own) if formula[0] in ("late", "soon")]
    heads += [("or",)] * (3 if waiting else 0)
    if depth == 0 or not heads or ring is not None and draw.random() < 0.7:
        return None if ring is None else ("ring", ring)
    head = draw.choice(heads)
    parts = [drawn_tree(draw, judge, force | set(bounds), left, depth - 1)
             for bounds, left in judge.ways(head, waiting)]
    return None if None in parts else head + tuple(parts)


class Spare(unittest.TestCase):
    def grown(self, draw, paper, judge):
        """A tree with needless splits put in at some places."""
        splits = [("late", number) for number, formula in enumerate(judge.own) if formula[0] == "late"]
        splits += [("soon", number) for number, formula in enumerate(judge.own) if formula[0] == "soon"]
        spots = range(len(judge.places))
        splits += [("pair", i, j) for i in spots for j in spots
                   if i < j and judge.places[i][0] == judge.places[j][0]]
        splits += [("cross", i, j) for i in spots for j in spots if judge.place_ways("cross", i, j, []) is not None]
        for _ in range(draw.randint(1, 3) if splits else 0):
            head = draw.choice(splits)
            paper = head + (paper,) * (3 if head[0] == "pair" else 2)
        return paper

    def test_needless_splits(self):
        draw = random.Random(134)
        grown = spare = 0
        for saying, log, promises in list(true_sayings(135, 200)) + list(drawn_sayings(136, 200)):
            book = Book(log, promises)
            judge, paper = slowtrees.Judge(saying, log, promises), tree(saying, book)
            if paper is None:
                continue
            for value in (paper, self.grown(draw, paper, judge)):
                self.assertIs(is_spare(value, saying, book), judge.spare(value))
                short = shorter(value, saying, book)
                self.assertTrue(judge.is_tree(short) and judge.spare(short))
                self.assertLessEqual(size(short), size(value))
                self.assertIs(is_tree(short, saying, book) and is_spare(short, saying, book), True)
                grown, spare = grown + (not judge.spare(value)), spare + judge.spare(value)
        self.assertTrue(min(grown, spare) > 60, (grown, spare))

    def test_drawn_trees_of_many_ors(self):
        draw = random.Random(137)
        found = {"needless": 0, "spare": 0, "ors": 0}
        for saying in or_sayings(138, 150):
            judge = slowtrees.Judge(saying, [], [])
            for value in [drawn_tree(draw, judge, judge.force, judge.waiting, 6) for _ in range(3)]:
                if value is not None:
                    short = shorter(value, saying, EMPTY)
                    self.assertTrue(judge.is_tree(short) and judge.spare(short))
                    self.assertLessEqual(size(short), size(value))
                    self.assertIs(is_spare(value, saying, EMPTY), judge.spare(value))
                    found["spare" if judge.spare(value) else "needless"] += 1
                    found["ors"] += str(short).count("'or'") > 1
        self.assertTrue(min(found.values()) > 30, found)

    def test_one_and_several(self):
        saying, log, promises, paper = KINDS["late"]
        for many in (1, 2, 5):
            value = paper
            for number in range(many):
                value = ("late", 3 + number % 2, value, value) if number < 3 else ("late", 3, value, paper[3])
            self.assertIs(is_tree(value, saying, EMPTY), True)
            self.assertIs(is_spare(value, saying, EMPTY), False)
            self.assertEqual(size(shorter(value, saying, EMPTY)), 3)

    def test_needless_deep_down(self):
        saying, log, promises, paper = KINDS["late"]
        value = ("late", 3, ("late", 4, paper[2], ("soon", 0, LATER, LATER)), paper[3])
        check_refused(self, InvalidTree, value, lambda: shorter(value, saying, EMPTY))
        value = ("late", 3, ("late", 4, paper[2], paper[2]), paper[3])
        self.assertIs(is_spare(value, saying, EMPTY), False)
        self.assertEqual(shorter(value, saying, EMPTY), paper)

    def test_an_or_that_is_needless(self):
        wide = ("or", le(X, X), ("and", le(X, Y), le(Y, X)))
        ring = ("ring", [(1, 1, -1)])
        self.assertIs(is_spare(("or", ring, ring), wide, EMPTY), False)
        self.assertEqual(shorter(("or", ring, ring), wide, EMPTY), ring)
        self.assertIs(is_spare(ring, wide, EMPTY), True)

    def test_an_or_that_another_one_needs(self):
        first = ("and", le(X, Y), le(Y, X))
        saying = ("or", first, ("and", le(X, ("add", 1, X)), le(Y, ("add", 1, Y))))
        below = ("or", ("ring", [(1, 3, -1), (3, 1, -1)]), ("ring", [(2, 4, -1), (4, 2, -1)]))
        self.assertIs(is_spare(("or", below, below), saying, EMPTY), True)
        self.assertEqual(shorter(("or", below, below), saying, EMPTY), ("or", below, below))

    def test_no_trees_of_these(self):
        saying, log, promises, paper = KINDS["pair"]
        for call in (is_spare, shorter):
            for value in (LATER, ("ring", []), ("pair", 1, 0) + paper[3:]):
                check_refused(self, InvalidTree, value, lambda: call(value, saying, EMPTY))
            check_refused(self, InvalidTree, paper, lambda: call(paper, le(X, Y), EMPTY))
            # Behind TooMany, and behind the errors of the parameters; a value that is not formed is ahead of all.
            check_too_many(self, "pieces", 60, lambda: call(LATER, nots(58), EMPTY))
            check_refused(self, InvalidSaying, None, lambda: call(LATER, None, EMPTY))
            check_refused(self, InvalidTree, None, lambda: call(None, nots(58), EMPTY))


if __name__ == "__main__":
    unittest.main()
