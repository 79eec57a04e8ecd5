"""Theses, their truths, contraries and papers."""

import random
import unittest

from leadrules.asks import is_parting, settles
from leadrules.beside import decides, later_saying, left_saying, never_later
from leadrules.books import Book
from leadrules.errors import InvalidThesis
from leadrules.known import is_known_break, is_known_tree, known_verdict
from leadrules.laid import is_break
from leadrules.loose import is_loose
from leadrules.papers import contrary_thesis, is_paper, is_thesis, is_true, paper_of, words
from leadrules.pictures import is_picture
from leadrules.promised import follow_saying, follows
from leadrules.reasons import enough
from leadrules.slack import least_slack
from leadrules.sure import is_broken, is_broken_paper
from leadrules.tables import Table
from leadrules.trees import is_tree
from leadrules.verdicts import verdict
from tests import drawn, known_books, slow, slowplans, slowtrees, text_cases, wrong
from tests.test_asks import slow_settling
from tests.test_laid import slow_holds
from tests.test_parameters import content
from tests.wrong import check_refused

X, Y = ("day", "x"), ("day", "y")
EMPTY = Book([], [])
LINES = [("for all", "broken"), ("kept", "not kept"), ("within", "beyond"), ("bounded", "loose"), ("same", "not same"),
         ("follows", "open"), ("enough", "not enough"), ("known for all", "known broken"), ("settled", "unsettled"),
         ("decides", "never decides"), ("never later", "perhaps later")]


def le(first, second):
    return ("le", first, second)


def slow_contrary(thesis):
    """The thesis of the other word."""
    for first, second in LINES:
        if thesis[0] in (first, second):
            return (second if thesis[0] == first else first,) + thesis[1:]


def by_function(thesis):
    """Whether a thesis is true, by the function of its line."""
    word, *parts = thesis
    line = [pair for pair in LINES if word in pair][0]
    truth = {
        "for all": lambda: verdict(*parts) == "all", "kept": lambda: not is_broken(*parts),
        "within": lambda: (lambda slack: slack is not None and slack <= parts[2])(least_slack(*parts[:2], parts[3])),
        "bounded": lambda: least_slack(*parts) is not None,
        "same": lambda: verdict(le(parts[0], parts[1]), parts[2]) == verdict(le(parts[1], parts[0]), parts[2]) == "all",
        "follows": lambda: follows(*parts), "enough": lambda: enough(*parts),
        "known for all": lambda: known_verdict(*parts) == "all", "settled": lambda: settles(*parts),
        "decides": lambda: decides(*parts), "never later": lambda: never_later(*parts),
    }[line[0]]()
    return truth is (word == line[0])


def tree_of(value, saying, book):
    """Whether a value is a tree, by an own judge; told trees alone are passed."""
    return slowtrees.Judge(saying, book.log, book.promises).is_tree(value)


def break_of(value, saying, book):
    return slow.clash(value[1], book.log, book.promises) is None and not slow_holds(saying, *value, book.log, book.promises)


def right_paper(thesis, value):
    """Whether a told paper shows that a thesis is true, by own judges where there are such."""
    word, *parts = thesis
    book = parts[-1]
    if word in ("for all", "broken"):
        return (tree_of if word == "for all" else break_of)(value, *parts)
    if word == "kept":
        return value[0] == {} and slow.clash(value[1], book.log, book.promises) is None
    if word == "not kept":
        return tree_of(value, le(("num", 1), ("num", 0)), book)
    if word in ("within", "beyond"):
        return (tree_of if word == "within" else break_of)(value, le(parts[0], ("add", parts[2], parts[1])), book)
    if word == "bounded":
        return tree_of(value[1], le(parts[0], ("add", value[0], parts[1])), book)
    if word == "loose":
        return is_loose(value, *parts)
    if word == "same":
        return tree_of(value[0], le(parts[0], parts[1]), book) and tree_of(value[1], le(parts[1], parts[0]), book)
    if word == "not same":
        sides = parts[:2] if value[0] else parts[1::-1]
        return isinstance(value[0], bool) and break_of(value[1], le(*sides), book)
    if word in ("follows", "open"):
        return (tree_of if word == "follows" else break_of)(value, follow_saying(parts[0]), book)
    if word in ("enough", "not enough"):
        return (tree_of if word == "enough" else break_of)(value, parts[1], Book(parts[0], book.promises))
    return right_later_paper(word, parts, value)


def right_later_paper(word, parts, value):
    """As right_paper, of calendars, asks and plans."""
    book = parts[-1]
    if word in ("known for all", "known broken"):
        return (is_known_tree if word == "known for all" else is_known_break)(value, *parts)
    if word == "settled":
        saying, rows, promises = slow_settling(parts[0], parts[1], book.log, book.promises)
        return tree_of(value, saying, Book(rows, promises))
    if word == "unsettled":
        return is_parting(value, *parts)
    if word in ("decides", "never decides"):
        told = slowplans.formula(parts[0], parts[1]), slowplans.formula(slowplans.without(parts[0], parts[2]), parts[1])
        return (break_of if word == "decides" else tree_of)(value, ("and", le(*told), le(*told[::-1])), book)
    told = le(slowplans.formula(parts[0], parts[1]), slowplans.formula(parts[2], parts[3]))
    return (tree_of if word == "never later" else break_of)(value, told, book)


def drawn_thesis(draw, word, lists, log, promises):
    """A thesis of a word, beside a book that some rules keep but for kept ones."""
    book = Book(log, promises)
    saying = drawn.saying(draw, draw.randint(0, 1), 2, "xy", "ab")
    first, second = [drawn.formula(draw, 2, "xy", "ab") for _ in range(2)]
    plan, other = slowplans.drawn_plan(draw, 3, "ab", "mn", 1), slowplans.drawn_plan(draw, 3, "ab", "pq", 1)
    parts = sorted(plan)
    if word == "kept":
        return (word, Book(log + [drawn.row(draw, "ab") for _ in range(draw.randint(0, 2))], promises))
    if word in ("within", "bounded", "same"):
        if draw.random() < 0.5:
            second = ("late", first, second) if draw.random() < 0.5 else ("add", draw.randint(0, 2), first)
        number = (draw.randint(-3, 6),) if word == "within" else ()
        return (word, first, second, *number, book)
    if word == "follows":
        return (word, drawn.promise(draw, "ab"), book)
    if word == "enough":
        return (word, [row for row in log if draw.random() < 0.7], saying, book)
    if word == "known for all":
        calendars = {rule: Table(drawn.list_of_days(draw, draw.choice((1, 2, 4)))) for rule in draw.sample("cd", draw.randint(0, 2))}
        return (word, drawn.saying(draw, draw.randint(0, 1), 2, "xy", "abcd"), book, calendars)
    if word == "settled":
        return (word, [("a", day) for day in draw.sample(range(5), draw.randint(0, 2))], saying, book)
    if word == "decides":
        return (word, plan, *draw.sample(parts, 2), book) if len(parts) > 1 else drawn_thesis(draw, word, lists, log, promises)
    if word == "never later":
        return (word, plan, draw.choice(parts), other, draw.choice(sorted(other)), book)
    return (word, saying, book)


def is_small(thesis):
    """Whether a saying in a thesis has few pieces, so that its papers can be judged slowly."""
    sayings = [part for part in thesis if isinstance(part, tuple) and part and isinstance(part[0], str)]
    plans = [part for part in thesis if isinstance(part, dict) and thesis[0] in ("decides", "never later")]
    told = sayings + [slowplans.formula(plan, part) for plan in plans for part in plan]
    return all(known_books.pieces(one) <= (22 if thesis[0] != "settled" else 14) for one in told)


class Words(unittest.TestCase):
    def test_words(self):
        self.assertEqual(words(), LINES)
        self.assertIsInstance(words(), list)

    def test_contraries_of_all_words(self):
        for pair in text_cases.theses():
            for thesis in pair:
                found = contrary_thesis(thesis)
                self.assertEqual(content(found), content(self.with_sorted_keys(slow_contrary(thesis))))
                self.assertEqual(content(contrary_thesis(found)), content(self.with_sorted_keys(thesis)))

    def with_sorted_keys(self, value):
        if isinstance(value, dict):
            return {key: self.with_sorted_keys(value[key]) for key in sorted(value)}
        if isinstance(value, (list, tuple)):
            return value.__class__(self.with_sorted_keys(part) for part in value)
        return value

    def test_parts_as_they_were_passed(self):
        """Tuples stay tuples, lists are new lists, dicts new dicts, with what is in them."""
        plan = {"q": ("a", 0, ["p"]), "p": ("b", 1, ())}
        found = contrary_thesis(("decides", plan, "q", "p", EMPTY))
        self.assertEqual(found[:1] + found[2:4], ("never decides", "q", "p"))
        self.assertEqual(content(found[1]), content({"p": ("b", 1, ()), "q": ("a", 0, ["p"])}))
        self.assertIsNot(found[1], plan)
        self.assertIsNot(found[1]["q"][2], plan["q"][2])
        rows = [("a", 0, 2)]
        for told in (rows, tuple(rows)):
            found = contrary_thesis(("enough", told, le(X, X), Book(rows, [])))
            self.assertEqual(content(found[1]), content(told))
        asks = [("a", 3)]
        self.assertIsNot(contrary_thesis(("settled", asks, le(X, X), EMPTY))[1], asks)
        calendars = {"d": Table([0]), "c": Table([1])}
        found = contrary_thesis(("known for all", le(X, X), EMPTY, calendars))[3]
        self.assertEqual((list(found), found == calendars, found is calendars), (["c", "d"], True, False))


class Theses(unittest.TestCase):
    def test_theses(self):
        for pair in text_cases.theses():
            for thesis in pair:
                self.assertIs(is_thesis(thesis), True)

    def test_none(self):
        for value in text_cases.not_theses() + wrong.ANYTHING + wrong.NOT_TEXTS:
            self.assertIs(is_thesis(value), False, value)

    def test_kinds_of_parts(self):
        """Each part of each thesis in turn exchanged for values of other kinds."""
        for thesis, _ in text_cases.theses():
            for at in range(1, len(thesis)):
                for value in (None, True, 3.5, object(), [None], {"x": True}, ("le", X), ([], []), Table([0]), ("day", 3)):
                    told = thesis[:at] + (value,) + thesis[at + 1:]
                    self.assertIs(is_thesis(told), False, told)
            self.assertIs(is_thesis(thesis[:-1]), False)
            self.assertIs(is_thesis(thesis + (None,)), False)
            self.assertIs(is_thesis(list(thesis)), False)
            self.assertIs(is_thesis((thesis[0].upper(),) + thesis[1:]), False)

    def test_refused(self):
        for value in text_cases.not_theses():
            for call in (is_true, contrary_thesis, paper_of, lambda told: is_paper(told, None)):
                check_refused(self, InvalidThesis, value, lambda: call(value))

    def test_broken_books(self):
        """Where a function raises BrokenBook nothing is a thesis; the others go on."""
        book = text_cases.BROKEN
        for thesis, due in ((("for all", le(("num", 1), ("num", 0)), book), True), (("kept", book), True),
                            (("within", X, X, 0, book), False), (("bounded", X, X, book), False),
                            (("same", X, Y, book), True), (("follows", ("quick", "a", "b"), book), False),
                            (("enough", [], le(X, X), book), False), (("known for all", le(X, Y), book, {}), True),
                            (("settled", [], le(X, Y), book), True)):
            self.assertIs(is_thesis(thesis), due)
            if due:
                self.assertEqual(is_true(thesis), thesis[0] != "kept")


class Papers(unittest.TestCase):
    def test_just_one_is_true(self):
        for thesis, other in text_cases.theses():
            self.assertEqual((is_true(thesis), is_true(other)), (True, False), thesis)
            self.assertEqual((by_function(thesis), by_function(other)), (True, False))

    def test_a_paper_exactly_if_true(self):
        for thesis, other in text_cases.theses():
            paper = paper_of(thesis)
            self.assertTrue(right_paper(thesis, paper), thesis)
            self.assertIs(is_paper(thesis, paper), True)
            self.assertIsNone(paper_of(other))
            self.assertIs(is_paper(other, paper), False)

    def test_papers_of_other_theses(self):
        theses = [thesis for thesis, _ in text_cases.theses()]
        papers = [paper_of(thesis) for thesis in theses]
        for at, thesis in enumerate(theses):
            for place, paper in enumerate(papers):
                if is_paper(thesis, paper):
                    self.assertTrue(at == place or right_paper(thesis, paper), (thesis, paper))

    def test_any_value(self):
        for thesis, other in text_cases.theses():
            for value in wrong.ANYTHING + [(value, value) for value in wrong.ANYTHING] + [(True, ("ring", [])), (3, ({}, {}))]:
                for told in (thesis, other):
                    # Among these values are pictures that show something.
                    self.assertTrue(not is_paper(told, value) or right_paper(told, value), (told, value))

    def test_kept(self):
        book = text_cases.LEADS
        for value, due in ((({}, {}), True), (({}, {"b": [(0, 1)]}), True), (({}, {"b": [(0, 3)]}), False),
                           (({"x": 3}, {}), False), (({}, []), False), ([{}, {}], False)):
            self.assertIs(is_paper(("kept", book), value), due)
        self.assertIs(is_picture(({"x": 3}, {}), book), True)

    def test_bounded(self):
        """Any INTEGER with its tree; the slack is the least one."""
        served, book = ("on", "a", X), text_cases.LEADS
        thesis = ("bounded", served, X, book)
        number, paper = paper_of(thesis)
        self.assertEqual(number, 3)
        self.assertIs(is_paper(thesis, (5, paper_of(("within", served, X, 5, book)))), True)
        for value in ((5, paper), (3, None), (3,), (3, paper, paper), [3, paper], (True, paper), (None, paper), ("3", paper), paper,
                      (paper, 3)):
            self.assertIs(is_paper(thesis, value), False)

    def test_same(self):
        one, other = ("late", X, Y), ("late", Y, X)
        thesis = ("same", one, other, EMPTY)
        paper = paper_of(thesis)
        for value in (paper[::-1], list(paper), paper[:1], paper + paper[:1], paper[0], (None, paper[1]), (paper[0], None)):
            self.assertEqual(is_paper(thesis, value), isinstance(value, tuple) and len(value) == 2 and all(
                part is not None and is_tree(part, saying, EMPTY) for part, saying in zip(
                    value, (le(one, other), le(other, one)))))
        for first, second, truth in ((X, ("late", X, Y), False), (("late", X, Y), X, True)):
            thesis = ("not same", first, second, EMPTY)
            told, picture = paper_of(thesis)
            self.assertIs(told, truth)
            self.assertIs(is_paper(thesis, (told, picture)), True)
            for value in ((not told, picture), (int(told), picture), (told, None), (None, picture), picture, [told, picture]):
                self.assertIs(is_paper(thesis, value), False)
        # Both sayings are broken: each picture with the word of its own.
        thesis = ("not same", X, Y, EMPTY)
        for value, due in (((True, ({"x": 1, "y": 0}, {})), True), ((False, ({"x": 0, "y": 1}, {})), True),
                           ((True, ({"x": 0, "y": 1}, {})), False), ((False, ({"x": 1, "y": 0}, {})), False)):
            self.assertIs(is_paper(thesis, value), due)

    def test_drawn_theses(self):
        """Each true thesis with its paper, judged slowly, and its contrary without one."""
        for line in LINES:
            found = {True: 0, False: 0}
            for draw, lists, log, promises in known_books.kept_books(470 + LINES.index(line), 70, "ab", 3, 3):
                thesis = drawn_thesis(draw, line[0], lists, log, promises)
                if not is_small(thesis):
                    continue
                other = slow_contrary(thesis)
                self.assertTrue(is_thesis(thesis) and is_thesis(other), thesis)
                truth = by_function(thesis)
                found[truth] += 1
                self.assertIs(is_true(thesis), truth)
                self.assertIs(is_true(other), not truth)
                right, false = (thesis, other) if truth else (other, thesis)
                paper = paper_of(right)
                self.assertTrue(right_paper(right, paper), (right, paper))
                self.assertIs(is_paper(right, paper), True)
                self.assertIsNone(paper_of(false))
                self.assertIs(is_paper(false, paper), False)
            self.assertTrue(min(found.values()) > 2, (line, found))

    def test_papers_by_the_judges_of_the_table(self):
        """Papers are judged just as the judges of the table do, whatever the value."""
        served, book, plan = ("on", "a", X), text_cases.LEADS, {"p": ("a", 0, []), "q": ("b", 1, ["p"])}
        judges = [
            (("for all", le(served, X), book), lambda value: is_tree(value, le(served, X), book)),
            (("broken", le(served, X), book), lambda value: is_break(value, le(served, X), book)),
            (("not kept", book), lambda value: is_broken_paper(value, book)),
            (("within", served, X, 2, book), lambda value: is_tree(value, le(served, ("add", 2, X)), book)),
            (("beyond", served, X, 2, book), lambda value: is_break(value, le(served, ("add", 2, X)), book)),
            (("loose", served, X, EMPTY), lambda value: is_loose(value, served, X, EMPTY)),
            (("open", ("quick", "a", "b"), book), lambda value: is_break(value, le(served, ("on", "b", X)), book)),
            (("decides", plan, "q", "p", book), lambda value: is_break(value, left_saying(plan, "q", "p"), book)),
            (("never later", plan, "q", plan, "p", book), lambda value: is_tree(value, later_saying(plan, "q", plan, "p"), book)),
            (("perhaps later", plan, "q", plan, "p", book), lambda value: is_break(value, later_saying(plan, "q", plan, "p"), book)),
            (("not enough", [], le(served, X), book), lambda value: is_break(value, le(served, X), Book([], book.promises))),
            (("known broken", le(served, X), book, {}), lambda value: is_known_break(value, le(served, X), book, {})),
            (("unsettled", [("a", 1)], le(served, X), EMPTY), lambda value: is_parting(value, [("a", 1)], le(served, X), EMPTY)),
        ]
        draw = random.Random(490)
        values = [paper_of(thesis) for pair in text_cases.theses() for thesis in pair]
        values += [paper_of(told) for thesis, _ in judges for told in (thesis, slow_contrary(thesis))]
        values += [(drawn.days(draw, "xs"), drawn.answers(draw, "ab", 2)) for _ in range(60)]
        for thesis, judge in judges:
            told = [judge(value) for value in values]
            self.assertEqual([is_paper(thesis, value) for value in values], told)


if __name__ == "__main__":
    unittest.main()
