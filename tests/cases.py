"""All functions and methods of the interface, each with arguments that are right."""

from leadrules import basics, beneath, books, errors, formulas, joined, laid, pictures, sayings, tables, turning
from leadrules.books import Book
from leadrules.tables import Table
from tests import wrong

X, Y = ("day", "x"), ("day", "y")


def week():
    return Table([0, 7, 7, 7, 7, 7, 7])


def ship():
    return Table([3, 3, 6])


def formula():
    return ("on", "a", ("late", ("add", 2, X), ("by", "b", Y)))


def one_name():
    return ("on", "a", ("soon", ("til", "b", X), ("add", 2, ("by", "a", X))))


def saying():
    return ("or", ("le", ("on", "a", X), ("num", 3)), ("not", ("le", ("til", "b", Y), ("late", Y, ("num", 9)))))


def broken():
    """A saying that breaks in picture()."""
    return ("or", ("le", ("on", "a", X), ("num", 3)), ("le", ("on", "b", Y), ("on", "a", Y)))


def days():
    return {"y": 2, "x": 5, "z": 7}


def world():
    return {"b": ship(), "a": week(), "c": Table([0])}


def book():
    return Book([("a", 0, 7), ("b", 0, 8)], [("quick", "a", "b"), ("lead", "a", 0, None), ("lead", "b", None, 9)])


def kept_book():
    """A book that world() keeps."""
    return Book([("a", 1, 7), ("b", 0, 3)], [("lead", "b", 1, 3), ("lead", "a", 0, None), ("quick", "c", "a")])


def picture():
    return ({"y": 2, "x": 5, "z": 0}, {"b": [(2, 9), (3, 9)], "a": [(2, 7), (5, 9)], "c": []})


def other_picture():
    return ({"y": 2, "p": 4}, {"d": [(0, 1)], "a": ((5, 9), (6, 9)), "b": []})


# Parameter: the error and the values that are none of its kind.
WRONG = {
    "day": (errors.InvalidDay, wrong.NOT_DAYS), "goal": (errors.InvalidDay, wrong.NOT_DAYS),
    "count": (errors.InvalidCount, wrong.NOT_COUNTS), "many": (errors.InvalidCount, wrong.NOT_COUNTS),
    "rule": (errors.InvalidRule, wrong.NOT_RULES), "name": (errors.InvalidName, wrong.NOT_NAMES),
    "formula": (errors.InvalidFormula, wrong.NOT_FORMULAS), "saying": (errors.InvalidSaying, wrong.NOT_SAYINGS),
    "days": (errors.InvalidDays, wrong.NOT_DAY_DICTS), "world": (errors.InvalidWorld, wrong.NOT_WORLDS),
    "tables": (errors.InvalidTables, wrong.NOT_TABLE_LISTS), "picture": (errors.InvalidPicture, wrong.NOT_PICTURES),
    "other_picture": (errors.InvalidPicture, wrong.NOT_PICTURES), "row": (errors.InvalidRow, wrong.NOT_ROWS),
    "promise": (errors.InvalidPromise, wrong.NOT_PROMISES), "rules": (errors.InvalidRules, wrong.NOT_RULE_DICTS),
    "names": (errors.InvalidNames, wrong.NOT_NAME_DICTS),
    "told": (errors.InvalidSaying, [value for value in wrong.NOT_SAYINGS
                                    if value not in (X, ("num", 1), ("on", "a", X))]),
}
NOT_LENGTH = (errors.InvalidCount, wrong.NOT_LENGTHS)


def _case(module, call, arguments, wrongs=None, judged=None):
    """A case: where it is defined, what is called, its arguments, and what is wrong for its parameters."""
    table = {}
    for name in arguments:
        if wrongs and name in wrongs:
            table[name] = wrongs[name]
        elif name in WRONG and name != judged:
            table[name] = WRONG[name]
    return {"module": module, "call": call, "arguments": arguments, "wrong": table}


def function_cases():
    """The list of the cases of all functions."""
    both = {"table": week(), "other_table": ship()}
    rows = {"count": 3, "rows": [(4, 9), (-1, 3)]}
    need_rows = {"count": NOT_LENGTH, "rows": (errors.InvalidRows, wrong.NOT_KNOWN_ROWS)}
    form = {"value": (errors.InvalidPicture, wrong.NOT_PICTURES)}
    woven_rows = {"rows": (errors.InvalidRows, wrong.NOT_WOVEN_ROWS)}
    laid_arguments = {"picture": picture(), "book": book(), "rule": "b", "day": 5}
    cases = [_case(basics, call, {"value": 3})
             for call in (basics.is_day, basics.is_count, basics.is_rule, basics.is_name, basics.is_days)]
    cases += [_case(tables, call, {"value": 3}) for call in (tables.is_table, tables.is_world)]
    cases += [_case(joined, call, dict(both)) for call in (
        joined.behind, joined.later, joined.sooner, joined.first_above, joined.most_above, joined.first_parting)]
    cases += [
        _case(joined, joined.times, {"table": ship(), "count": 5}),
        _case(joined, joined.run_of, {"table": ship(), "day": 4, "count": 5}),
        _case(joined, joined.run_end, {"table": ship(), "day": 4, "count": 5}),
        _case(joined, joined.through, {"tables": [week(), ship()], "day": 4}),
        _case(joined, joined.reach, {"table": ship(), "day": 4, "goal": 50}),
        _case(joined, joined.rounds, {"table": ship()}),
        _case(joined, joined.round_of, {"table": ship(), "day": 4}),
        _case(joined, joined.pace, {"table": ship()}),
        _case(joined, joined.earliest_with, dict(rows), need_rows),
        _case(joined, joined.latest_with, dict(rows), need_rows),
        _case(formulas, formulas.is_formula, {"value": formula()}),
        _case(formulas, formulas.day_of, {"formula": formula(), "days": days(), "world": world()}),
        _case(formulas, formulas.is_chain, {"value": formula()}),
        _case(formulas, formulas.rows_of, {"formula": formula()}),
        _case(formulas, formulas.woven, {"rows": [[X, Y], [X]]}, woven_rows),
        _case(formulas, formulas.last_day, {"formula": one_name(), "day": 9, "world": world()}),
        _case(formulas, formulas.first_day, {"formula": one_name(), "day": 9, "world": world()}),
        _case(sayings, sayings.is_saying, {"value": saying()}),
        _case(sayings, sayings.holds, {"saying": saying(), "days": days(), "world": world()}),
        _case(sayings, sayings.pieces, {"told": saying()}),
        _case(sayings, sayings.names_of, {"told": saying()}),
        _case(sayings, sayings.rules_of, {"told": saying()}),
        _case(sayings, sayings.put, {"told": saying(), "name": "x", "formula": ("add", 1, Y)}),
        _case(sayings, sayings.with_rules, {"told": saying(), "rules": {"b": "a", "a": "b"}}),
        _case(sayings, sayings.with_names, {"told": saying(), "names": {"y": "x", "x": "y"}}),
        _case(sayings, sayings.pushed, {"saying": saying()}),
        _case(sayings, sayings.contrary, {"saying": saying()}),
        _case(sayings, sayings.positive, {"saying": saying()}),
        _case(sayings, sayings.ways, {"saying": saying()}),
        _case(sayings, sayings.plain, {"told": saying()}),
        _case(turning, turning.turned_down, {"formula": one_name(), "name": "y"}),
        _case(turning, turning.turned_up, {"formula": one_name(), "name": "y"}),
        _case(turning, turning.freed, {"saying": saying(), "name": "x"}),
    ]
    cases += [_case(beneath, call, {"book": book(), "rule": "b"}) for call in (
        beneath.beneath, beneath.above, beneath.low, beneath.high, beneath.low_chain, beneath.high_chain)]
    cases += [_case(beneath, call, {"book": book()}) for call in (beneath.torn, beneath.quick_pairs)]
    cases += [
        _case(pictures, pictures.is_picture, {"value": picture(), "book": book()}),
        _case(pictures, pictures.clash, {"value": ({}, {"a": [(0, 8)]}), "book": book()}, form),
        _case(pictures, pictures.places, {"picture": picture(), "book": book()}),
        _case(pictures, pictures.joined_pictures,
              {"picture": picture(), "other_picture": other_picture(), "book": book()}),
        _case(pictures, pictures.asks_of, {"world": world(), "days": days(), "formula": formula()}),
        _case(pictures, pictures.picture_of, {"world": world(), "days": days(), "saying": saying()}),
        _case(pictures, pictures.keeps, {"world": world(), "book": kept_book()}),
        _case(pictures, pictures.agrees, {"world": world(), "picture": ({}, {"a": [(1, 7)]}), "book": kept_book()}),
        _case(laid, laid.base, {"picture": picture(), "book": book(), "rule": "b"}),
        _case(laid, laid.laid_on, dict(laid_arguments)),
        _case(laid, laid.laid_by, dict(laid_arguments)),
        _case(laid, laid.laid_til, dict(laid_arguments)),
        _case(laid, laid.laid_days, dict(laid_arguments, many=4)),
        _case(laid, laid.laid_value, {"picture": picture(), "book": book(), "formula": formula()}),
        _case(laid, laid.laid_holds, {"picture": picture(), "book": book(), "saying": saying()}),
        _case(laid, laid.is_break, {"value": picture(), "saying": broken(), "book": book()}),
        _case(laid, laid.trimmed, {"picture": picture(), "saying": broken(), "book": book()}),
    ]
    return cases


def method_cases():
    """The list of the cases of all methods, classes called and class methods."""
    table = Table([1, 1, 3])
    held = book()
    cases = [_case(tables, call, {"day": -4}) for call in (
        table.on, table, table.by, table.til, table.is_served, table.moved, table.asked_later)]
    cases += [_case(tables, call, {}) for call in (
        table.days, table.asked_rows, table.leads, table.mean_lead, table.fixed_days, table.by_table, table.til_table,
        table.shortest)]
    return cases + [
        _case(tables, Table, {"days": [0, 2]}, {"days": (errors.InvalidTable, wrong.NOT_TABLES)}),
        _case(tables, table.answers, {"day": -4, "count": 7}),
        _case(tables, table.stretched, {"count": 2}, {"count": NOT_LENGTH}),
        _case(tables, Table.plain, {"count": 2}, {"count": NOT_LENGTH}),
        _case(tables, table.is_same, {"other_table": ship()}),
        _case(books, held.with_row, {"row": ("b", 4, 12)}),
        _case(books, held.without_row, {"row": ("a", 0, 7)}),
        _case(books, held.with_promise, {"promise": ("lead", "c", None, 4)}),
        _case(books, held.without_promise, {"promise": ("quick", "a", "b")}),
        _case(books, held.joined, {"book": kept_book()}),
        _case(books, held.rows_of, {"rule": "a"}),
    ]


def book_case():
    """Book itself: its errors tell an element, so only whole values that are no lists are wrong alike."""
    no_lists = [None, True, 3, "", {}, Book([], []), TABLE_LIKE]
    return _case(books, Book, {"log": [("a", 0, 7), ("a", -1, 7)], "promises": [("quick", "a", "b")]},
                 {"log": (errors.InvalidRow, no_lists), "promises": (errors.InvalidPromise, no_lists)})


TABLE_LIKE = {"a": ("a", 0, 1)}


def all_cases():
    """The list of all cases."""
    return function_cases() + method_cases() + [book_case()]
