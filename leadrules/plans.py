"""Plans: parts, what they need, by which rules they come, and on which days they are ready."""

from leadrules.common import need_count, need_day, need_few_pieces
from leadrules.errors import LastPart, SharedPart, TooMany
from leadrules.planned import (MOST_PARTS, formula_of, has_plan_form, need_part, need_plan, need_rules_of, need_there,
                               parts_taken_in, plan_delayed, plan_of, plan_without, ready_days, ring_parts,
                               rules_of_parts, sequence_of)
from leadrules.tables import need_world


def is_plan(value):
    """Whether a value is a plan without a ring."""
    return has_plan_form(value) and not ring_parts(value)


def taken_in(plan, part):
    """The sorted list of what a part takes in: itself, and all to which it comes."""
    _need_both(plan, part)
    need_there(part, plan)
    return parts_taken_in(plan, part)


def in_sequence(plan):
    """The list of all parts, each behind all that it needs."""
    need_plan(plan)
    return sequence_of(plan, list(plan))


def plan_rules(plan, part):
    """The sorted list of the rules of what a part takes in."""
    _need_both(plan, part)
    need_there(part, plan)
    return rules_of_parts(plan, parts_taken_in(plan, part))


def plan_formula(plan, part):
    """The formula of the day on which a part is ready, the start being the day named s."""
    _need_both(plan, part)
    need_there(part, plan)
    formula = formula_of(plan, part)
    need_few_pieces([formula])
    return formula


def ready(plan, part, day, world):
    """The day on which a part is ready from a start."""
    return _ready_taken_in(plan, part, day, world)[part]


def all_ready(plan, day, world):
    """The dict from all parts to the days on which they are ready from a start."""
    need_plan(plan)
    need_day(day)
    need_world(world)
    need_rules_of(plan, list(plan), world)
    return ready_days(plan, list(plan), day, world)


def waited_for(plan, part, day, world):
    """A list that ends with a part, ahead of each one the least of those that it needs and that are ready last."""
    days = _ready_taken_in(plan, part, day, world)
    found = [part]
    while plan[found[-1]][2]:
        needs = plan[found[-1]][2]
        last = max([days[need] for need in needs])
        found.append(min([need for need in needs if days[need] == last]))
    return found[::-1]


def without_part(plan, other):
    """The plan with a part left out: what needed it needs what it needed."""
    _need_both(plan, other)
    need_there(other, plan)
    if len(plan) == 1:
        raise LastPart(other)
    return plan_without(plan, other)


def with_delay(plan, part, many):
    """The plan with a part delayed by so many days."""
    _need_both(plan, part)
    need_count(many)
    need_there(part, plan)
    return plan_delayed(plan, part, many)


def followed(plan, part, other_plan):
    """The plan of all parts of both, in which the other plan is begun when a part of the first one is ready."""
    _need_both(plan, part)
    need_plan(other_plan)
    need_there(part, plan)
    for other in sorted(other_plan):
        if other in plan:
            raise SharedPart(other)
    if len(plan) + len(other_plan) > MOST_PARTS:
        raise TooMany("parts", MOST_PARTS)
    steps = dict(plan)
    for other, (rule, days, needs) in other_plan.items():
        steps[other] = (rule, days, needs if needs else [part])
    return plan_of(steps)


def _need_both(plan, part):
    """Raise an error unless a plan is one without a ring, and a part is one."""
    need_plan(plan)
    need_part(part)


def _ready_taken_in(plan, part, day, world):
    """The dict from all that a part takes in to its ready days, once it is sure that there are such."""
    _need_both(plan, part)
    need_day(day)
    need_world(world)
    need_there(part, plan)
    parts = parts_taken_in(plan, part)
    need_rules_of(plan, parts, world)
    return ready_days(plan, parts, day, world)
