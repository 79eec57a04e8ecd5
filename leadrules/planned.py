"""What the files of plans share: the checks of plans and parts, and what is made of a plan that is right."""

from leadrules.basics import is_count, is_rule
from leadrules.common import is_list
from leadrules.errors import InvalidPart, InvalidPlan, MissingPart, MissingRule, RingOfParts, SamePart
from leadrules.formulas import joined_by

MOST_PARTS = 12
MOST_LETTERS = 12
START = ("day", "s")


def is_part(value):
    """Whether a value is a part: a string of 1 to 12 small letters."""
    if not isinstance(value, str) or not 1 <= len(value) <= MOST_LETTERS:
        return False
    return all([letter in "abcdefghijklmnopqrstuvwxyz" for letter in value])


def has_plan_form(value):
    """Whether a value is a plan, perhaps with a ring."""
    if not isinstance(value, dict) or not 1 <= len(value) <= MOST_PARTS:
        return False
    return all([is_part(part) for part in value]) and all([_is_step(step, value) for step in value.values()])


def ring_parts(plan):
    """The sorted list of the parts that come to themselves."""
    return [part for part in sorted(plan) if part in _parts_behind(plan, plan[part][2])]


def need_plan(value):
    """Raise an error unless the value is a plan without a ring."""
    if not has_plan_form(value):
        raise InvalidPlan(value)
    on_rings = ring_parts(value)
    if on_rings:
        raise RingOfParts(on_rings[0])


def need_part(value):
    """Raise InvalidPart unless the value is a part."""
    if not is_part(value):
        raise InvalidPart(value)


def need_there(part, plan):
    """Raise MissingPart if a part is not in a plan."""
    if part not in plan:
        raise MissingPart(part)


def need_two(plan, part, other):
    """Raise an error unless both parts are in a plan, and unlike."""
    need_there(part, plan)
    need_there(other, plan)
    if part == other:
        raise SamePart(part)


def need_rules_of(plan, parts, world):
    """Raise MissingRule of the least rule of some parts that a world lacks."""
    for rule in rules_of_parts(plan, parts):
        if rule not in world:
            raise MissingRule(rule)


def rules_of_parts(plan, parts):
    """The sorted list of the rules of some parts."""
    return sorted(set([plan[part][0] for part in parts]))


def parts_taken_in(plan, part):
    """The sorted list of a part and all parts to which it comes."""
    return sorted(_parts_behind(plan, [part]))


def sequence_of(plan, parts):
    """The list of some parts, each behind all that it needs, always the least one that can come next.

    With a part all that it needs must be among them.
    """
    found = []
    while len(found) < len(parts):
        ready = [part for part in parts if part not in found and all([need in found for need in plan[part][2]])]
        found.append(min(ready))
    return found


def formula_of(plan, part):
    """The formula of a part's ready day, of however many pieces."""
    formulas = {}
    for told in sequence_of(plan, parts_taken_in(plan, part)):
        rule, days, needs = plan[told]
        asked = joined_by("late", [formulas[need] for need in needs]) if needs else START
        served = ("on", rule, asked)
        formulas[told] = served if days == 0 else ("add", days, served)
    return formulas[part]


def ready_days(plan, parts, start, world):
    """The dict from some parts to the days on which they are ready from a start."""
    found = {}
    for part in sequence_of(plan, parts):
        rule, days, needs = plan[part]
        asked = max([found[need] for need in needs], default=start)
        found[part] = world[rule].on(asked) + days
    return {part: found[part] for part in sorted(found)}


def plan_of(steps):
    """A new plan of a dict from parts to (rule, COUNT, needs), its keys sorted."""
    return {part: (steps[part][0], steps[part][1], list(steps[part][2])) for part in sorted(steps)}


def plan_without(plan, other):
    """The plan with a part left out."""
    needs_of_other = list(plan[other][2])
    steps = {}
    for part in plan:
        rule, days, needs = plan[part]
        if other in needs:
            needs = sorted(set([need for need in needs if need != other] + needs_of_other))
        if part != other:
            steps[part] = (rule, days, needs)
    return plan_of(steps)


def plan_delayed(plan, part, many):
    """The plan with a part delayed."""
    steps = dict(plan)
    rule, days, needs = plan[part]
    steps[part] = (rule, days + many, needs)
    return plan_of(steps)


def _is_step(value, plan):
    """Whether a value is what a plan tells of a part: its rule, a COUNT, and what it needs."""
    if not isinstance(value, tuple) or len(value) != 3 or not is_rule(value[0]) or not is_count(value[1]):
        return False
    needs = value[2]
    if not is_list(needs) or not all([is_part(need) and need in plan for need in needs]):
        return False
    return all([needs[place] < needs[place + 1] for place in range(len(needs) - 1)])


def _parts_behind(plan, parts):
    """The dict from some parts, and all to which they come, to True."""
    found = {}
    waiting = list(parts)
    while waiting:
        part = waiting.pop()
        if part not in found:
            found[part] = True
            waiting.extend(plan[part][2])
    return found
