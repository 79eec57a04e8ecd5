"""Plans beside a book: which part is never later than another one, which parts decide, and what may be delayed."""

from leadrules.common import need_count, need_few_pieces
from leadrules.planned import (formula_of, need_part, need_plan, need_there, need_two, parts_taken_in, plan_delayed,
                               plan_without)
from leadrules.searches import found_out
from leadrules.slack import least_slack


def later_saying(plan, part, other_plan, other_part):
    """The saying that a part is never later than a part of another plan."""
    _need_compared(plan, part, other_plan, other_part)
    saying = ("le", formula_of(plan, part), formula_of(other_plan, other_part))
    need_few_pieces([saying])
    return saying


def never_later(plan, part, other_plan, other_part, book):
    """Whether a part is never later than a part of another plan, for all rules and starts that keep a book."""
    return _holds(later_saying(plan, part, other_plan, other_part), book)


def most_later(plan, part, other_plan, other_part, book):
    """The most days by which a part is later than a part of another plan; None if there is no most."""
    _need_compared(plan, part, other_plan, other_part)
    return least_slack(formula_of(plan, part), formula_of(other_plan, other_part), book)


def left_saying(plan, part, other):
    """The saying that a part is ready on the same day when another one is left out."""
    _need_unlike(plan, part, other)
    need_two(plan, part, other)
    return _left_saying(plan, part, other)


def decides(plan, part, other, book):
    """Whether another part decides the day of a part, for some rules and starts that keep a book."""
    return not _holds(left_saying(plan, part, other), book)


def deciding(plan, part, book):
    """The sorted list of the parts taken in, other than the part, that decide its day."""
    need_plan(plan)
    need_part(part)
    need_there(part, plan)
    others = [other for other in parts_taken_in(plan, part) if other != part]
    return [other for other in others if not _holds(_left_saying(plan, part, other), book)]


def spare_days(plan, part, other, most, book):
    """By how many days another part can be delayed, at most most, without any change of a part's ready day."""
    _need_unlike(plan, part, other)
    need_count(most)
    need_two(plan, part, other)
    if most == 0:
        return 0
    formula = formula_of(plan, part)
    # A longer delay never makes a part ready earlier: so the spare days are looked for between two counts.
    spare, over = 0, most + 1
    tried = 1
    while spare + 1 < over:
        saying = ("le", formula_of(plan_delayed(plan, other, tried), part), formula)
        need_few_pieces([saying])
        if _holds(saying, book):
            spare = tried
        else:
            over = tried
        tried = min(2 * spare, most) if over > most else (spare + over) // 2
    return spare


def _need_compared(plan, part, other_plan, other_part):
    """Raise an error unless two parts of two plans can be compared."""
    need_plan(plan)
    need_part(part)
    need_plan(other_plan)
    need_part(other_part)
    need_there(part, plan)
    need_there(other_part, other_plan)


def _need_unlike(plan, part, other):
    """Raise an error unless a plan is one without a ring, and both parts are such."""
    need_plan(plan)
    need_part(part)
    need_part(other)


def _left_saying(plan, part, other):
    """As left_saying, of what is known to be right."""
    first, second = formula_of(plan, part), formula_of(plan_without(plan, other), part)
    saying = ("and", ("le", first, second), ("le", second, first))
    need_few_pieces([saying])
    return saying


def _holds(saying, book):
    """Whether a saying holds for all rules and days that keep a book."""
    return found_out(saying, book)[1] is None
