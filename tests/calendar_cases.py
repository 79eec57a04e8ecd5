"""The functions of calendars, each with arguments that are right."""

from leadrules import errors, known, legs, rests
from leadrules.books import Book
from leadrules.tables import Table
from tests import wrong
from tests.cases import NOT_LENGTH, X, Y
from tests.proof_cases import bounds_below, case

CALENDARS = (errors.InvalidWorld, wrong.NOT_WORLDS)
LENGTH = (errors.InvalidLength, wrong.NOT_REST_LENGTHS)
RESTS = (errors.InvalidRests, wrong.NOT_RESTS + [{0: 0, 3: 1}, {0: 0, 2: 1, 600: 2}])


def calendars():
    return {"d": Table([0, 2]), "c": Table([0, 4, 4, 4, 5, 5, 6])}


def short():
    """Calendars of length 2."""
    return {"d": Table([1, 1]), "c": Table([0, 2])}


def book():
    return Book([("a", 3, 7), ("b", 0, 2)], [("lead", "a", 0, 6), ("quick", "b", "a")])


def saying():
    """A saying with rules of the calendars and of the book, which breaks."""
    both = ("or", ("le", ("by", "c", X), ("late", X, ("til", "b", Y))), ("not", ("le", ("soon", X, Y), ("num", 3))))
    return ("and", both, ("le", ("on", "d", ("on", "a", X)), ("add", 3, Y)))


def so():
    """A saying that holds for all beside book() and calendars(), for which days must have rests."""
    served = ("on", "c", X)
    return ("and", ("le", ("add", 1, X), ("late", ("on", "d", ("add", 1, X)), served)),
            ("le", ("on", "b", served), ("on", "a", ("add", 3, X))))


def fixed():
    """A saying that holds for all, told by rests of days that the saying fixes."""
    return ("le", ("on", "c", ("late", ("num", 3), X)), ("late", ("num", 4), ("on", "c", X)))


def even():
    """A saying that holds for all as c serves on even days alone: legs of days with rests show it."""
    return ("or", ("le", ("on", "c", X), ("on", "c", Y)), ("le", ("add", 2, ("on", "c", Y)), ("on", "c", X)))


def known_cases():
    """The cases of known trees and known breaks."""
    both = {"saying": saying(), "book": book(), "calendars": calendars()}
    held = {"saying": even(), "book": book(), "calendars": {"c": Table([0, 2]), "d": Table([1])}}
    picture = known.known_broken(**both)
    told = {"picture": (dict(picture[0], z=4), picture[1]), "book": book(), "calendars": calendars()}
    not_break = {"picture": (errors.InvalidPicture, wrong.NOT_PICTURES)}
    return [
        case(known, known.known_value, dict(told, formula=("late", ("on", "c", X), ("by", "a", Y))), {"calendars": CALENDARS}),
        case(known, known.known_holds, dict(told, saying=saying()), {"calendars": CALENDARS}),
        case(known, known.known_verdict, dict(both), {"calendars": CALENDARS}),
        case(known, known.known_tree, dict(held), {"calendars": CALENDARS}),
        case(known, known.is_known_tree, {"value": known.known_tree(**held), **held}, {"calendars": CALENDARS}),
        case(known, known.known_broken, dict(both), {"calendars": CALENDARS}),
        case(known, known.is_known_break, {"value": picture, **both}, {"calendars": CALENDARS}),
        case(known, known.known_sureness, dict(both, days={"z": 3, "x": 1}), {"calendars": CALENDARS}),
        case(known, known.told_out, {"picture": told["picture"], **both}, {"calendars": CALENDARS, **not_break}),
        case(known, known.period_rows, {"rule": "a", "table": Table([0, 4, 4, 4, 5, 5, 6]), "day": -3, "many": 9}),
    ]


def rest_cases():
    """The cases of read days and legs."""
    both = {"saying": saying(), "book": book(), "calendars": calendars()}
    read = rests.read_days(**both)
    not_rest = {"calendars": CALENDARS, "day": (errors.InvalidDay, wrong.NOT_DAYS + [0, -1, 600]),
                "rest": (errors.InvalidRests, wrong.NOT_COUNTS + [14, 600])}
    rested = {"many": 3, "bounds": [(1, 0, 6), (0, 1, -6), (2, 1, 4)], "length": 7, "rests": {2: 3, 0: 0, 1: 5}}
    open_ones = dict(rested, bounds=[(1, 0, 6), (2, 1, 4), (0, 2, 9)])
    not_rested = {"many": NOT_LENGTH, "bounds": bounds_below(3), "length": LENGTH, "rests": RESTS}
    return [
        case(rests, rests.calendar_length, {"calendars": calendars()}, {"calendars": CALENDARS}),
        case(rests, rests.read_days, dict(both), {"calendars": CALENDARS}),
        case(rests, rests.known_bounds, dict(both), {"calendars": CALENDARS}),
        case(rests, rests.rest_bounds, dict(both, day=read[0], rest=9), not_rest),
        case(legs, legs.leg_sum, {"leg": [(1, 2, 6), (2, 0, 3)], "length": 7, "rests": {1: 5, 0: 0}},
             {"leg": (errors.InvalidBounds, wrong.NOT_LEG_LISTS), "length": LENGTH,
              "rests": (errors.InvalidRests, wrong.NOT_RESTS)}),
        case(legs, legs.legs_of, dict(rested), not_rested),
        case(legs, legs.is_legs, dict(rested, value=legs.legs_of(**rested)), not_rested),
        case(legs, legs.rested_days, dict(open_ones), not_rested),
        case(legs, legs.are_rested_days, dict(open_ones, value=legs.rested_days(**open_ones)), not_rested),
    ]


def all_cases():
    """The list of all cases."""
    return known_cases() + rest_cases()
