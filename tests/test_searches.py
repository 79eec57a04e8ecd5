"""How many nodes the search for a tree or a picture may come to, and where TooMany("nodes", 4000) stands."""

import unittest
from unittest import mock

from leadrules import (answers, asks, beside, either, known, loose, papers, promised, reasons, searches, slack, sure, trees,
                       turns, verdicts)
from leadrules.books import Book
from leadrules.tables import Table
from leadrules.errors import BrokenBook
from tests import proof_cases, sure_cases
from tests.cases import X, Y
from tests.test_formulas import tower
from tests.test_sayings import nots
from tests.wrong import check_too_many, raised

EMPTY = Book([], [])
BROKEN = Book([("a", 0, 1), ("a", 0, 2)], [])
# It needs a split, so the search has more than one node.
SPLIT = ("le", ("on", "a", X), ("on", "a", ("add", 1, X)))
SERVED = ("on", "a", X)
DAYS = {"x": 0}


def with_most(many, action):
    """What an action returns where a search may come to so many nodes."""
    with mock.patch.object(searches, "MOST_NODES", many):
        return action()


def asking(book, saying=SPLIT, first=SERVED):
    """Calls that search for a tree or a picture, each of a book, and of a saying or a first formula."""
    second = ("on", "a", ("add", 1, X))
    return [
        lambda: slack.least_slack(first, second, book), lambda: slack.span(first, second, book),
        lambda: slack.slack_tree(first, second, book), lambda: slack.farthest(first, second, book),
        lambda: slack.slack_table([first, second], book),
        lambda: loose.loose(first, second, book), lambda: either.either_slack(first, second, second, X, book, 1),
        lambda: either.either_breaks(first, second, second, X, book, 1), lambda: sure.sureness(saying, book, {}),
        lambda: sure.sure_paper(saying, book, {}), lambda: sure.foretold(("a", 0, 1), saying, book, {}),
        lambda: answers.least_answer(first, book, DAYS), lambda: answers.greatest_answer(first, book, DAYS),
        lambda: answers.giving(first, 0, book, DAYS), lambda: answers.possible(first, 0, book, DAYS),
        lambda: answers.possible_days(first, 0, 3, book, DAYS), lambda: answers.last_sure(first, 0, book),
        lambda: answers.last_hope(first, 0, book), lambda: reasons.enough([], saying, book),
        lambda: reasons.first_reason(saying, book), lambda: reasons.all_reasons(saying, book),
        lambda: reasons.is_reason([], saying, book), lambda: reasons.needed_rows(saying, book),
        lambda: reasons.reason_paper(saying, book), lambda: reasons.first_cause(saying, book),
        lambda: reasons.is_cause(([], []), saying, book),
    ]


class Nodes(unittest.TestCase):
    def test_most(self):
        self.assertEqual(searches.MOST_NODES, 4000)

    def test_above_it(self):
        for many in (0, 1):
            for call in (trees.tree, verdicts.verdict, verdicts.broken):
                check_too_many(self, "nodes", many, lambda: with_most(many, lambda: call(SPLIT, EMPTY)))
        paper = trees.tree(SPLIT, EMPTY)
        self.assertEqual(trees.size(paper), 4)
        self.assertEqual(with_most(4, lambda: trees.tree(SPLIT, EMPTY)), paper)
        check_too_many(self, "nodes", 3, lambda: with_most(3, lambda: trees.tree(SPLIT, EMPTY)))

    def test_of_all_that_search(self):
        for call in asking(EMPTY):
            check_too_many(self, "nodes", 0, lambda: with_most(0, call))
        picture = ({"x": 0, "y": 0}, {})
        check_too_many(self, "nodes", 0, lambda: with_most(0, lambda: slack.is_farthest(picture, X, Y, EMPTY)))

    def test_behind_broken_book(self):
        for call in asking(BROKEN):
            self.assertIs(raised(lambda: with_most(0, call)).__class__, BrokenBook)

    def test_behind_pieces(self):
        for call in asking(EMPTY, nots(60), tower(60)):
            check_too_many(self, "pieces", 60, lambda: with_most(0, call))

    def test_beside_calendars(self):
        book, week = EMPTY, {"c": Table([0, 2])}
        for call in (known.known_verdict, known.known_tree, known.known_broken):
            check_too_many(self, "nodes", 0, lambda: with_most(0, lambda: call(SPLIT, book, week)))
        check_too_many(self, "nodes", 0, lambda: with_most(0, lambda: known.known_sureness(SPLIT, book, week, {})))
        paper = known.known_tree(SPLIT, book, week)
        self.assertIs(with_most(0, lambda: known.is_known_tree(paper, SPLIT, book, week)), True)
        # Behind the errors of the interface, pieces and a broken book among them.
        check_too_many(self, "pieces", 60, lambda: with_most(0, lambda: known.known_tree(nots(60), book, week)))
        self.assertIs(raised(lambda: with_most(0, lambda: known.known_sureness(SPLIT, BROKEN, week, {}))).__class__, BrokenBook)

    def test_of_plans_and_asks(self):
        plan = {"p": ("a", 0, []), "q": ("b", 1, ["p"])}
        late = ("le", ("num", 5), ("on", "a", ("num", 3)))
        calls = [lambda: beside.never_later(plan, "p", plan, "q", EMPTY), lambda: beside.most_later(plan, "p", plan, "q", EMPTY),
                 lambda: beside.decides(plan, "q", "p", EMPTY), lambda: beside.deciding(plan, "q", EMPTY),
                 lambda: beside.spare_days(plan, "q", "p", 1, EMPTY), lambda: turns.sure_start(plan, "q", 9, EMPTY),
                 lambda: turns.open_start(plan, "q", 9, EMPTY), lambda: turns.ready_between(plan, "q", 9, EMPTY),
                 lambda: asks.settles([("a", 7)], late, EMPTY), lambda: asks.parting([("a", 7)], late, EMPTY),
                 lambda: asks.least_lots([("a", 7)], late, EMPTY), lambda: asks.answered([("a", 7)], [8], late, EMPTY)]
        for call in calls:
            check_too_many(self, "nodes", 0, lambda: with_most(0, call))

    def test_of_theses(self):
        """Where the function of its line comes to too many nodes, a tuple is no thesis; a judge of papers searches not."""
        thesis = ("for all", SPLIT, EMPTY)
        self.assertIs(with_most(0, lambda: papers.is_thesis(thesis)), False)
        self.assertIs(with_most(4000, lambda: papers.is_thesis(thesis)), True)
        # The saying that this promise is needs a search, that it follows does not.
        promised_thesis = ("open", ("quick", "a", "b"), EMPTY)
        self.assertIs(with_most(0, lambda: papers.is_true(promised_thesis)), True)
        check_too_many(self, "nodes", 0, lambda: with_most(0, lambda: papers.paper_of(promised_thesis)))

    def test_what_does_not_search(self):
        """Steady stands, loose papers and readings are judged, and promises follow, without it."""
        paper, stands = loose.loose(SERVED, X, EMPTY), sure_cases.stands()
        for call in (lambda: loose.is_loose(paper, SERVED, X, EMPTY), lambda: loose.is_steady(paper, EMPTY)):
            self.assertIs(with_most(0, call), True)
        self.assertEqual(with_most(0, lambda: loose.reading(stands, EMPTY, X)), (0, 0))
        self.assertIs(with_most(0, lambda: sure.is_broken(BROKEN)), True)
        self.assertIs(with_most(0, lambda: promised.follows(("quick", "a", "b"), EMPTY)), False)

    def test_judges_of_papers(self):
        saying, book = proof_cases.so(), proof_cases.book()
        paper = trees.tree(saying, book)
        self.assertIs(with_most(0, lambda: trees.is_tree(paper, saying, book)), True)
        self.assertEqual(with_most(0, lambda: trees.shorter(paper, saying, book)), trees.shorter(paper, saying, book))
        told = reasons.reason_paper(saying, book)
        self.assertIs(with_most(0, lambda: reasons.is_reason_paper(told, saying, book)), True)


if __name__ == "__main__":
    unittest.main()
