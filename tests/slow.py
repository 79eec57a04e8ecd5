"""Slow reckoning, straight from the document's words, that uses nothing of the package."""

from itertools import product


def on(days, day):
    """a(day) of a list of days, by going a length at a time."""
    length, more = len(days), 0
    while day < 0:
        day, more = day + length, more - length
    while day >= length:
        day, more = day - length, more + length
    return days[day] + more


def far(days):
    """As many days as no served day lies from the asked one, and some."""
    return max(abs(day) for day in days) + 2 * len(days) + 2


def by(days, day):
    """The first day m with a(m) >= day, by going from day to day."""
    at = day - far(days)
    assert on(days, at) < day
    while on(days, at) < day:
        at += 1
    return at


def til(days, day):
    """The last day m with a(m) <= day, by going from day to day."""
    at = day + far(days)
    assert on(days, at) > day
    while on(days, at) > day:
        at -= 1
    return at


def lists_of_days(length, least, most):
    """All lists of days of a length whose days lie from least to most."""
    return [list(days) for days in product(range(least, most + 1), repeat=length)
            if all(days[at] <= days[at + 1] for at in range(length - 1)) and days[-1] - days[0] <= length]


def day_of(formula, days, world):
    """The day of a formula, in a world of lists of days."""
    word = formula[0]
    if word == "day":
        return days[formula[1]]
    if word == "num":
        return formula[1]
    if word in ("late", "soon"):
        both = [day_of(part, days, world) for part in formula[1:]]
        return max(both) if word == "late" else min(both)
    within = day_of(formula[2], days, world)
    if word == "add":
        return within + formula[1]
    return {"on": on, "by": by, "til": til}[word](world[formula[1]], within)


def holds(saying, days, world):
    """Whether a saying holds, in a world of lists of days."""
    word = saying[0]
    if word == "le":
        return day_of(saying[1], days, world) <= day_of(saying[2], days, world)
    truths = [holds(part, days, world) for part in saying[1:]]
    return {"and": all, "or": any, "not": lambda parts: not parts[0]}[word](truths)


def pieces(told):
    """All pieces of a formula or saying, from the left."""
    found = [told]
    for part in told[1:]:
        if isinstance(part, tuple):
            found.extend(pieces(part))
    return found


def steps(promises):
    """The pairs of rules of the quick promises."""
    return [(promise[1], promise[2]) for promise in promises if promise[0] == "quick"]


def chains(promises, rules):
    """All lists of unlike rules from each of which a quick promise goes to the next one."""
    found = [[rule] for rule in rules]
    at = 0
    while at < len(found):
        for first, other in steps(promises):
            if found[at][-1] == first and other not in found[at]:
                found.append(found[at] + [other])
        at += 1
    return found


def beneath(promises, rule, rules="abcdefgh"):
    return sorted({chain[0] for chain in chains(promises, rules) if chain[-1] == rule})


def above(promises, rule, rules="abcdefgh"):
    return sorted({chain[-1] for chain in chains(promises, rules) if chain[0] == rule})


def leasts(promises, rule):
    """The leasts of the leads of a rule itself."""
    return [promise[2] for promise in promises if promise[:2] == ("lead", rule) and promise[2] is not None]


def mosts(promises, rule):
    """The mosts of the leads of a rule itself."""
    return [promise[3] for promise in promises if promise[:2] == ("lead", rule) and promise[3] is not None]


def low(promises, rule):
    found = [least for other in beneath(promises, rule) for least in leasts(promises, other)]
    return max(found) if found else None


def high(promises, rule):
    found = [most for other in above(promises, rule) for most in mosts(promises, other)]
    return min(found) if found else None


def low_chain(promises, rule):
    fit = [chain for chain in chains(promises, "abcdefgh")
           if chain[-1] == rule and low(promises, rule) in leasts(promises, chain[0])]
    return min(fit, key=lambda chain: (len(chain), chain)) if fit else None


def high_chain(promises, rule):
    fit = [chain for chain in chains(promises, "abcdefgh")
           if chain[0] == rule and high(promises, rule) in mosts(promises, chain[-1])]
    return min(fit, key=lambda chain: (len(chain), chain)) if fit else None


def torn(promises, rules="abcdefgh"):
    return [rule for rule in rules if low(promises, rule) is not None and high(promises, rule) is not None
            and low(promises, rule) > high(promises, rule)]


def places(answers, log, rules="abcdefgh"):
    """The places of answers and a log: a dict from the rules that have any."""
    found = {}
    for rule in rules:
        told = {tuple(row) for row in answers.get(rule, [])} | {row[1:] for row in log if row[0] == rule}
        if told:
            found[rule] = sorted(told)
    return found


def clash(answers, log, promises):
    """The first clash, by looking at all places and pairs."""
    if torn(promises):
        return ("torn", torn(promises)[0])
    spots = [(rule, *spot) for rule, told in places(answers, log).items() for spot in told]
    leads = []
    for rule, asked, served in spots:
        least, most = low(promises, rule), high(promises, rule)
        if least is not None and served < asked + least or most is not None and served > asked + most:
            leads.append(("lead", rule, asked, served))
    if leads:
        return min(leads)
    pairs = [("pair", *spot, *other) for spot in spots for other in spots
             if spot[0] in beneath(promises, other[0]) and spot[1] <= other[1] and spot[2] > other[2]]
    return min(pairs) if pairs else None


def base(answers, log, promises, rule, rules="abcdefgh"):
    if low(promises, rule) is not None:
        return low(promises, rule)
    numbers = [0] + [served - asked for told in places(answers, log).values() for asked, served in told]
    for other in rules:
        numbers += [bound for bound in (low(promises, other), high(promises, other)) if bound is not None]
    return min(numbers)


def laid_on(answers, log, promises, rule, day):
    """The day that the laid rule serves, from the words."""
    found = [day + base(answers, log, promises, rule)]
    for other in beneath(promises, rule):
        found += [served for asked, served in places(answers, log).get(other, []) if asked <= day]
    return max(found)
