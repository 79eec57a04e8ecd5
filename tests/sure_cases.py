"""The functions of loose papers and pairs, and of what is sure, each with arguments that are right."""

from leadrules import answers, either, errors, loose, promised, reasons, sure
from leadrules.books import Book
from tests import wrong
from tests.cases import X, Y
from tests.proof_cases import MOST, OTHER, SERVED, book, case, so

ROWS = (errors.InvalidRows, wrong.NOT_ROW_LISTS)


def broken_book():
    return Book([("a", 0, 3), ("a", 0, 5), ("b", 1, 1)], [("quick", "a", "b")])


def spare_book():
    """A book with a promise more than it needs."""
    return Book([("a", 3, 7)], [("lead", "a", 1, 9), ("lead", "b", 2, 8), ("quick", "b", "a"), ("lead", "b", None, 9)])


def stands():
    """Two stands: the one rule serves later with each step, the other one stays."""
    near = ({"y": 3, "x": 0}, {"b": [(3, 5)], "a": [(0, 0), (4, 9)], "c": []})
    return (near, ({"x": 0, "y": 4}, {"a": [(0, 1), (6, 12)], "c": [], "b": [(4, 5)]}))


def loose_cases():
    """The cases of loose papers and pairs."""
    two = {"first": SERVED, "second": X, "book": Book([("a", 0, 4)], [("quick", "a", "b")])}
    four = {"first": SERVED, "second": X, "third": OTHER, "fourth": Y}
    leads = Book([], [("lead", "a", 0, 2), ("lead", "b", 0, 3)])
    pairs = dict(four, book=leads, most=3)
    not_stands = {"stands": (errors.InvalidStands, wrong.NOT_STANDS)}
    return [
        case(loose, loose.loose, dict(two)),
        case(loose, loose.is_loose, {"value": loose.loose(**two), **two}),
        case(loose, loose.stand_of, {"stands": stands(), "many": 4}, not_stands),
        case(loose, loose.tracks_of, {"stands": stands()}, not_stands),
        case(loose, loose.is_steady, {"value": stands(), "book": Book([], [])}),
        case(loose, loose.reading, {"stands": stands(), "book": Book([], []), "formula": ("late", SERVED, X)}, not_stands),
        case(either, either.either_saying, dict(four, pair=(2, 0)), {"pair": (errors.InvalidPair, wrong.NOT_PAIRS)}),
        case(either, either.either_slack, dict(pairs), {"most": MOST}),
        case(either, either.either_breaks, dict(pairs), {"most": MOST}),
    ]


def sureness_cases():
    """The cases of sureness and of answers."""
    told = {"saying": ("le", SERVED, ("num", 6)), "book": book(), "days": {"y": 4, "x": 4}}
    asked = {"formula": ("late", SERVED, Y), "book": book(), "days": {"z": 9, "y": -2, "x": 4}}
    given = {"formula": asked["formula"], "day": 8, "book": book(), "days": asked["days"]}
    found = [
        case(sure, sure.is_broken, {"book": broken_book()}),
        case(sure, sure.broken_paper, {"book": broken_book()}),
        case(sure, sure.is_broken_paper, {"value": sure.broken_paper(broken_book()), "book": broken_book()}),
        case(sure, sure.put_in, {"told": so(), "days": {"z": 1, "x": -2}}),
        case(sure, sure.sureness, dict(told)),
        case(sure, sure.sure_paper, dict(told)),
        case(sure, sure.is_sure_paper, {"value": sure.sure_paper(**told), **told}),
        case(sure, sure.foretold, {"row": ("a", 4, 8), **told}),
        case(answers, answers.least_answer, dict(asked)),
        case(answers, answers.greatest_answer, dict(asked)),
        case(answers, answers.giving, dict(given)),
        case(answers, answers.is_giving, {"value": answers.giving(**given), **given}),
        case(answers, answers.possible, dict(given)),
        case(answers, answers.possible_days, {"formula": given["formula"], "day": 3, "many": 9, "book": book(),
                                              "days": asked["days"]}),
    ]
    return found + [case(answers, call, {"formula": ("til", "b", SERVED), "day": 9, "book": book()})
                    for call in (answers.last_sure, answers.last_hope)]


def reason_cases():
    """The cases of reasons, causes and promises that follow."""
    both = {"saying": so(), "book": book()}
    quarrel = reasons.first_quarrel(broken_book())
    return [
        case(reasons, reasons.enough, {"rows": [("a", 5, 8), ("a", 3, 7)], **both}, {"rows": ROWS}),
        case(reasons, reasons.first_reason, dict(both)),
        case(reasons, reasons.all_reasons, dict(both)),
        case(reasons, reasons.is_reason, {"value": reasons.first_reason(**both), **both}),
        case(reasons, reasons.needed_rows, dict(both)),
        case(reasons, reasons.reason_paper, dict(both)),
        case(reasons, reasons.is_reason_paper, {"value": reasons.reason_paper(**both), **both}),
        case(reasons, reasons.first_quarrel, {"book": broken_book()}),
        case(reasons, reasons.is_quarrel, {"value": quarrel, "book": broken_book()}),
        case(reasons, reasons.first_cause, dict(both)),
        case(reasons, reasons.is_cause, {"value": reasons.first_cause(**both), **both}),
        case(promised, promised.follows, {"promise": ("lead", "a", 1, None), "book": spare_book()}),
        case(promised, promised.follow_saying, {"promise": ("lead", "a", -1, 4)}),
        case(promised, promised.needless, {"book": spare_book()}),
        case(promised, promised.slim, {"book": spare_book()}),
        case(promised, promised.sure_lead, {"book": spare_book(), "rule": "a"}),
        case(promised, promised.quicker, {"book": spare_book()}),
    ]


def all_cases():
    """The list of all cases."""
    return loose_cases() + sureness_cases() + reason_cases()
