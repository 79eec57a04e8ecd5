"""Slow reckoning of plans, straight from the document's words; worlds are dicts from rules to lists of days."""

from tests import slow


def comes_to(plan, part):
    """All parts to which a part comes, by one step more each time; itself if it stands on a ring."""
    found = set(plan[part][2])
    while True:
        more = found | {need for other in found for need in plan[other][2]}
        if more == found:
            return found
        found = more


def taken_in(plan, part):
    return sorted(comes_to(plan, part) | {part})


def rings(plan):
    return sorted(part for part in plan if part in comes_to(plan, part))


def in_sequence(plan):
    found = []
    while len(found) < len(plan):
        found.append(min(part for part in plan if part not in found and set(plan[part][2]) <= set(found)))
    return found


def formula(plan, part):
    """The formula of a part, from the words."""
    rule, count, needs = plan[part]
    asked = ("day", "s")
    if needs:
        asked = formula(plan, needs[0])
        for need in needs[1:]:
            asked = ("late", asked, formula(plan, need))
    on = ("on", rule, asked)
    return on if count == 0 else ("add", count, on)


def ready(plan, part, start, world):
    """The day on which a part is ready, part after part."""
    rule, count, needs = plan[part]
    asked = max(ready(plan, need, start, world) for need in needs) if needs else start
    return slow.on(world[rule], asked) + count


def waited_for(plan, part, start, world):
    needs = plan[part][2]
    if not needs:
        return [part]
    days = {need: ready(plan, need, start, world) for need in needs}
    return waited_for(plan, min(need for need in needs if days[need] == max(days.values())), start, world) + [part]


def last_start(plan, part, day, world):
    """The last start with which a part is ready by a day, by going one day after another."""
    start = day
    while ready(plan, part, start, world) <= day:
        start += 1
    while ready(plan, part, start, world) > day:
        start -= 1
    return start


def first_start(plan, part, day, world):
    """The first start with which a part is ready on a day or later, by going one day after another."""
    start = day
    while ready(plan, part, start, world) >= day:
        start -= 1
    while ready(plan, part, start, world) < day:
        start += 1
    return start


def dues(plan, part, day, world):
    """The due days told back along the plan: the earliest of what all that need a part tell."""
    parts = taken_in(plan, part)

    def due(told):
        days = [day] if told == part else []
        for other in parts:
            if told in plan[other][2]:
                days.append(slow.til(world[plan[other][0]], due(other) - plan[other][1]))
        return min(days)

    return {told: due(told) for told in parts}


def without(plan, other):
    """The plan with a part left out."""
    found = {}
    for part, (rule, count, needs) in plan.items():
        if part != other:
            named = [need for need in needs if need != other] + (list(plan[other][2]) if other in needs else [])
            found[part] = (rule, count, sorted(set(named)))
    return found


def delayed(plan, part, many):
    rule, count, needs = plan[part]
    return {**plan, part: (rule, count + many, needs)}


def drawn_plan(draw, most=5, rules="ab", letters="mnopqr", counts=2):
    """A plan whose parts need some of those drawn ahead of them."""
    names = []
    while len(names) < draw.randint(1, most):
        name = "".join(draw.choice(letters) for _ in range(draw.randint(1, 3)))
        if name not in names:
            names.append(name)
    plan = {}
    for at, name in enumerate(names):
        needs = sorted(draw.sample(names[:at], draw.randint(0, min(at, 3))))
        plan[name] = (draw.choice(rules), draw.randint(0, counts), needs)
    keys = list(plan)
    draw.shuffle(keys)
    return {key: plan[key] for key in keys}
