"""The functions of stage 4 and of what is built upon it, each with arguments that are right."""

from leadrules import bounds, daylists, errors, leastways, slack, trees, verdicts
from leadrules.books import Book
from tests import wrong
from tests.cases import NOT_LENGTH, WRONG, X, Y

SERVED, OTHER = ("on", "a", X), ("on", "b", Y)
NOT_FORMULA = WRONG["formula"]
NUMBER = (errors.InvalidDay, wrong.NOT_DAYS)
MOST = (errors.InvalidCount, wrong.NOT_COUNTS)


def saying():
    """A saying of all kinds of formulas, which breaks."""
    both = ("or", ("le", ("by", "a", X), ("late", X, ("til", "b", Y))), ("not", ("le", ("soon", X, Y), ("num", 3))))
    return ("and", both, ("le", ("on", "a", X), ("add", 3, Y)))


def so():
    """A saying that holds for all rules and days that keep book(), and hangs on its rows."""
    return ("and", ("le", ("on", "a", ("soon", X, ("num", 3))), ("num", 7)),
            ("le", ("on", "b", X), ("on", "a", ("late", X, Y))))


def book():
    promises = [("lead", "a", 0, 6), ("quick", "b", "a"), ("lead", "b", -3, None)]
    return Book([("a", 3, 7), ("b", 0, 2), ("a", 5, 8)], promises)


def case(module, call, arguments, wrongs=None):
    """A case, as in cases: the parameters that are named as everywhere are wrong as everywhere."""
    table = {}
    for name in arguments:
        if wrongs and name in wrongs:
            table[name] = wrongs[name]
        elif name in ("first", "second", "third", "fourth"):
            table[name] = NOT_FORMULA
        elif name in WRONG:
            table[name] = WRONG[name]
    return {"module": module, "call": call, "arguments": arguments, "wrong": table}


def bounds_below(many):
    """What is wrong for bounds of day numbers below many."""
    return (errors.InvalidBounds, wrong.NOT_BOUNDS + [[(0, many, 1)], [(many, 0, 1)], [(0, 1, 0), (1, many + 5, 0)]])


def tree_cases():
    """The cases of stage 4."""
    both = {"saying": saying(), "book": book()}
    places = {"place": ("a", 1, 0, 2, 0), "other_place": ("b", 0, 1, 0, 4)}
    not_place = (errors.InvalidPlace, wrong.NOT_PLACES)
    not_paper = {"paper": (errors.InvalidTree, wrong.NOT_TREES)}
    ways = {"many": 3, "bounds": [(0, 1, -2), (1, 2, -3), (2, 0, 9)]}
    ring = [(0, 1, -2), (1, 0, 1)]
    not_ways = {"many": NOT_LENGTH, "bounds": bounds_below(3)}
    not_bounds = {"bounds": (errors.InvalidBounds, wrong.NOT_BOUNDS)}
    paper = trees.tree(so(), book())
    told = {"paper": paper, "saying": so(), "book": book()}
    return [
        case(daylists, daylists.days_of, {"saying": saying()}),
        case(daylists, daylists.places_of, dict(both)),
        case(bounds, bounds.bounds_of, dict(both)),
        case(bounds, bounds.opened, {"saying": saying()}),
        case(bounds, bounds.pair_ways, places, {"place": not_place, "other_place": not_place}),
        case(bounds, bounds.cross_ways, places, {"place": not_place, "other_place": not_place}),
        case(leastways, leastways.least_days, dict(ways), not_ways),
        case(leastways, leastways.are_kept, {"bounds": ways["bounds"], "value": [0, 2, 5]}, not_bounds),
        case(leastways, leastways.ring_of, {"many": 2, "bounds": list(ring)},
             {"many": NOT_LENGTH, "bounds": bounds_below(2)}),
        case(leastways, leastways.is_ring, {"bounds": list(ring), "value": ring[::-1]}, not_bounds),
        case(trees, trees.tree, {"saying": so(), "book": book()}),
        case(trees, trees.is_tree, {"value": paper, "saying": so(), "book": book()}),
        case(trees, trees.size, {"paper": paper}, not_paper),
        case(trees, trees.rings, {"paper": paper}, not_paper),
        case(trees, trees.is_spare, dict(told), not_paper),
        case(trees, trees.shorter, dict(told), not_paper),
        case(verdicts, verdicts.verdict, dict(both)),
        case(verdicts, verdicts.broken, dict(both)),
    ]


def slack_cases():
    """The cases of stage 5."""
    two = {"first": SERVED, "second": ("late", X, ("num", 3)), "book": book()}
    formulas = {"formulas": [SERVED, X, OTHER], "book": book()}
    found = [
        case(slack, slack.slack_saying, {"first": SERVED, "second": OTHER, "number": -4}, {"number": NUMBER}),
        case(slack, slack.is_farthest, {"value": slack.farthest(**two), **two}),
        case(slack, slack.slack_table, formulas, {"formulas": (errors.InvalidFormulas, wrong.NOT_FORMULA_LISTS)}),
    ]
    return found + [case(slack, call, dict(two)) for call in (
        slack.least_slack, slack.span, slack.slack_tree, slack.farthest)]


def all_cases():
    """The list of all cases."""
    return tree_cases() + slack_cases()
