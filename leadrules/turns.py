"""Plans turned: by which start a part is ready by a day, whoever serves, and by when its parts are due."""

from leadrules.answers import greatest_answer, last_hope, last_sure, least_answer
from leadrules.common import need_day, need_few_pieces, need_name
from leadrules.planned import (formula_of, need_part, need_plan, need_rules_of, need_there, parts_taken_in, ready_days,
                               sequence_of)
from leadrules.tables import need_world
from leadrules.turning import turned_down, turned_up


def last_start(plan, part, name):
    """The formula of the last start with which a part is ready by the day of a name."""
    return turned_down(_formula_to_turn(plan, part, name), name)


def first_start(plan, part, name):
    """The formula of the first start with which a part is ready on the day of a name or later."""
    return turned_up(_formula_to_turn(plan, part, name), name)


def last_start_in(plan, part, day, world):
    """The last start with which a part is ready on a day or earlier."""
    _need_in_world(plan, part, day, world)
    return _start_by(plan, part, day, world, True)


def first_start_in(plan, part, day, world):
    """The first start with which a part is ready on a day or later."""
    _need_in_world(plan, part, day, world)
    return _start_by(plan, part, day, world, False)


def dues(plan, part, day, world):
    """The dict from all that a part takes in to the days on which it is due."""
    _need_in_world(plan, part, day, world)
    return _goals(plan, part, day, world, True)


def room(plan, part, start, day, world):
    """The dict from all that a part takes in to its due day less the day on which it is ready from a start."""
    need_plan(plan)
    need_part(part)
    need_day(start)
    _need_in_world(plan, part, day, world)
    days = ready_days(plan, parts_taken_in(plan, part), start, world)
    due = _goals(plan, part, day, world, True)
    return {told: due[told] - days[told] for told in due}


def sure_start(plan, part, day, book):
    """The last start from which a part is ready by a day for all rules that keep a book; None if it is lacking."""
    _need_by_day(plan, part, day)
    return last_sure(formula_of(plan, part), day, book)


def open_start(plan, part, day, book):
    """The last start from which a part is ready by a day for some rules that keep a book; None if it is lacking."""
    _need_by_day(plan, part, day)
    return last_hope(formula_of(plan, part), day, book)


def ready_between(plan, part, start, book):
    """The earliest and the latest day on which a part may be ready from a start; None for no end that way."""
    _need_by_day(plan, part, start)
    formula = formula_of(plan, part)
    return (least_answer(formula, book, {"s": start}), greatest_answer(formula, book, {"s": start}))


def _formula_to_turn(plan, part, name):
    """The formula of a part, once it is sure that it can be turned."""
    need_plan(plan)
    need_part(part)
    need_name(name)
    need_there(part, plan)
    formula = formula_of(plan, part)
    need_few_pieces([formula])
    return formula


def _need_in_world(plan, part, day, world):
    """Raise an error unless a part's start by a day can be told in a world."""
    need_plan(plan)
    need_part(part)
    need_day(day)
    need_world(world)
    need_there(part, plan)
    need_rules_of(plan, parts_taken_in(plan, part), world)


def _need_by_day(plan, part, day):
    """Raise an error unless a day can be told for a part."""
    need_plan(plan)
    need_part(part)
    need_day(day)
    need_there(part, plan)


def _goals(plan, part, day, world, down):
    """The dict from all that a part takes in to the days to which they must keep.

    Down: the last days on which they may be ready, that the part is ready by the day; else the first days on which
    one of them being ready then or later makes the part be ready on the day or later. Both are the earliest ones of
    what the parts that need them tell: each must be in time, or any one must be late enough.
    """
    goals = {part: day}
    for told in sequence_of(plan, parts_taken_in(plan, part))[::-1]:
        asked = _asked_by(plan, told, goals[told], world, down)
        for need in plan[told][2]:
            goals[need] = min(goals.get(need, asked), asked)
    return {told: goals[told] for told in sorted(goals)}


def _asked_by(plan, part, goal, world, down):
    """The day to which the asking of a part must keep, told the one to which the part must."""
    rule, days, _ = plan[part]
    return world[rule].til(goal - days) if down else world[rule].by(goal - days)


def _start_by(plan, part, day, world, down):
    """The last start, or the first one, by a day in a world."""
    goals = _goals(plan, part, day, world, down)
    return min([_asked_by(plan, told, goals[told], world, down) for told in goals if not plan[told][2]])
