"""The functions of plans and asks, each with arguments that are right."""

from leadrules import asks, beside, errors, plans, turns
from leadrules.books import Book
from leadrules.tables import Table
from tests import wrong
from tests.cases import X
from tests.proof_cases import MOST, case

PLAN = (errors.InvalidPlan, wrong.NOT_PLANS)
PART = (errors.InvalidPart, wrong.NOT_PARTS)
PARAMETERS = {"plan": PLAN, "other_plan": PLAN, "part": PART, "other": PART, "other_part": PART, "most": MOST,
              "start": (errors.InvalidDay, wrong.NOT_DAYS), "asks": (errors.InvalidAsks, wrong.NOT_ASKS),
              "menu": (errors.InvalidAsks, wrong.NOT_ASKS), "served": (errors.InvalidServed, wrong.NOT_SERVED)}


def house():
    """A plan of several parts, one of which two need."""
    return {"window": ("a", 1, ["frame", "glass"]), "frame": ("b", 2, ["wood"]), "wood": ("c", 0, []),
            "glass": ("b", 0, ["wood"]), "door": ("a", 0, ["wood"])}


def other_house():
    return {"roof": ("b", 3, ["beam"]), "beam": ("a", 0, [])}


def world():
    return {"c": Table([3, 3, 6]), "a": Table([0, 7, 7, 7, 7, 7, 7]), "b": Table([1, 2]), "d": Table([0])}


def book():
    return Book([("a", 3, 5), ("b", 0, 2)], [("lead", "a", 0, 6), ("lead", "b", 1, 4), ("lead", "c", 0, 3)])


def planned(module, call, **arguments):
    """A case of a function of plans."""
    return case(module, call, arguments, {name: PARAMETERS[name] for name in arguments if name in PARAMETERS})


def plan_cases():
    """The cases of plans."""
    one = {"plan": house(), "part": "window"}
    in_world = dict(one, day=9, world=world())
    compared = {"plan": house(), "part": "window", "other_plan": other_house(), "other_part": "roof"}
    two = {"plan": house(), "part": "window", "other": "glass"}
    found = [
        case(plans, plans.is_plan, {"value": house()}),
        planned(plans, plans.in_sequence, plan=house()),
        planned(plans, plans.all_ready, plan=house(), day=4, world=world()),
        planned(plans, plans.without_part, plan=house(), other="wood"),
        planned(plans, plans.with_delay, plan=house(), part="wood", many=3),
        planned(plans, plans.followed, plan=house(), part="door", other_plan=other_house()),
        planned(beside, beside.later_saying, **compared),
        planned(beside, beside.never_later, **compared, book=book()),
        planned(beside, beside.most_later, **compared, book=book()),
        planned(beside, beside.left_saying, **two),
        planned(beside, beside.decides, **two, book=book()),
        planned(beside, beside.deciding, **one, book=book()),
        planned(beside, beside.spare_days, **two, most=20, book=book()),
        planned(turns, turns.room, plan=house(), part="window", start=2, day=30, world=world()),
        planned(turns, turns.ready_between, plan=house(), part="window", start=2, book=book()),
    ]
    found += [planned(plans, call, **one) for call in (plans.taken_in, plans.plan_rules, plans.plan_formula)]
    found += [planned(module, call, **in_world) for module, call in (
        (plans, plans.ready), (plans, plans.waited_for), (turns, turns.last_start_in), (turns, turns.first_start_in),
        (turns, turns.dues))]
    found += [planned(turns, call, **one, name="y") for call in (turns.last_start, turns.first_start)]
    return found + [planned(turns, call, **one, day=30, book=book()) for call in (turns.sure_start, turns.open_start)]


def ask_cases():
    """The cases of asks."""
    told = ("le", ("num", 9), ("on", "a", ("late", X, ("num", 3))))
    asked = {"asks": [("c", 3), ("a", 7)], "saying": told, "book": Book([("a", 3, 5), ("b", 0, 2)], [("quick", "b", "a")])}
    menu = {"menu": [("a", 4), ("b", 4), ("a", 3)], "saying": ("le", ("num", 9), ("on", "a", ("num", 4))), "book": book()}
    found = asks.parting(**asked)
    return [
        planned(asks, asks.settling, **asked), planned(asks, asks.settles, **asked), planned(asks, asks.parting, **asked),
        planned(asks, asks.is_parting, value=found, **asked), planned(asks, asks.least_lots, **menu),
        planned(asks, asks.answered, asks=asked["asks"], served=[4, 9], saying=told, book=asked["book"]),
    ]


def all_cases():
    """The list of all cases."""
    return plan_cases() + ask_cases()
