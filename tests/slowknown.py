"""Slow reckoning of rests, legs, known trees and known breaks, straight from the document's words.

Nothing of the package is used; calendars are dicts from rules to lists of days.
"""

from itertools import permutations
from math import lcm

from tests import slow, slowtrees


def length_of(calendars):
    return lcm(*[len(days) for days in calendars.values()])


def calendar_places(saying, calendars):
    """The places of rules of the calendars."""
    return [place for place in slowtrees.places_of(saying, []) if place[0] in calendars]


def read_days(saying, calendars):
    return sorted({place[1] for place in calendar_places(saying, calendars)})


def rest_bounds(saying, calendars, day, rest):
    found = set()
    for rule, asked_day, shift, answer, _ in calendar_places(saying, calendars):
        if asked_day == day:
            served = slow.on(calendars[rule], rest + shift)
            found |= {(answer, day, served - rest), (day, answer, rest - served)}
    return sorted(found)


def known_bounds(saying, log, promises, calendars):
    found = set(slowtrees.bounds_of(saying, log, promises))
    for rule, day, shift, answer, _ in calendar_places(saying, calendars):
        leads = [served - asked for asked, served in enumerate(calendars[rule])]
        found |= {(answer, day, shift + max(leads)), (day, answer, -shift - min(leads))}
    if 0 in read_days(saying, calendars):
        found |= set(rest_bounds(saying, calendars, 0, 0))
    return sorted(found)


def leg_sum(leg, length, rests):
    """The sum of a leg, brought down day by day."""
    total = sum(most for _, _, most in leg)
    first, last = leg[0][0], leg[-1][1]
    if first in rests and last in rests:
        while (total - (rests[first] - rests[last])) % length:
            total -= 1
    return total


def right_legs(legs, force, length, rests):
    """Whether a list is legs of bounds in force."""
    if not legs:
        return False
    for leg in legs:
        if not leg or any(bound not in force for bound in leg):
            return False
        if any(leg[at][1] != leg[at + 1][0] for at in range(len(leg) - 1)):
            return False
    if any(legs[at - 1][-1][1] != legs[at][0][0] for at in range(len(legs))):
        return False
    if len(legs) > 1 and any(leg[0][0] not in rests for leg in legs):
        return False
    return sum(leg_sum(leg, length, rests) for leg in legs) < 0


def all_ways(bounds):
    """All lists of unlike bounds, each second day the next one's first."""
    found = [[bound] for bound in bounds]
    at = 0
    while at < len(found):
        found += [found[at] + [bound] for bound in bounds if bound[0] == found[at][-1][1] and bound not in found[at]]
        at += 1
    return found


def has_legs(bounds, length, rests):
    """Whether some bounds make legs, by trying all: no leg needs a bound twice, nor legs a day with a rest twice."""
    ways = all_ways(sorted(set(bounds)))
    if any(way[0][0] == way[-1][1] and leg_sum(way, length, rests) < 0 for way in ways):
        return True
    least = {}
    for way in ways:
        ends = way[0][0], way[-1][1]
        if ends[0] in rests and ends[1] in rests:
            least[ends] = min(least.get(ends, 10 ** 9), leg_sum(way, length, rests))
    for many in range(2, len(rests) + 1):
        for days in permutations(rests, many):
            ends = [(days[at - 1], days[at]) for at in range(many)]
            if all(pair in least for pair in ends) and sum(least[pair] for pair in ends) < 0:
                return True
    return False


def rested_days(many, bounds, length, rests):
    """Days with their rests that keep bounds, by raising days day by day; None where they are raised too far."""
    days = [rests.get(number, 0) for number in range(many)]
    most = (sum(abs(bound[2]) for bound in bounds) + length) * (many + 1) + length
    while True:
        short = [bound for bound in bounds if days[bound[0]] - days[bound[1]] > bound[2]]
        if not short:
            return [day - days[0] for day in days]
        first, second, gap = short[0]
        days[second] = days[first] - gap
        while second in rests and (days[second] - rests[second]) % length:
            days[second] += 1
        if days[second] > most:
            return None


class Judge(slowtrees.Judge):
    """Judges known trees of a saying, a book of rows and promises, and calendars."""

    def __init__(self, saying, log, promises, calendars):
        super().__init__(saying, log, promises)
        self.saying, self.calendars = saying, calendars
        self.length = length_of(calendars)
        self.read = read_days(saying, calendars)
        self.force |= set(known_bounds(saying, log, promises, calendars))

    def is_known_tree(self, node):
        return self.right_known(node, self.force, self.waiting, {0: 0})

    def right_known(self, node, force, waiting, rests):
        word = node[0]
        if word == "legs":
            return len(node) == 2 and right_legs(node[1], force, self.length, rests)
        if word == "rest":
            if len(node) != 3 or node[1] not in self.read or node[1] in rests or len(node[2]) != self.length:
                return False
            return all(self.right_known(tree, force | set(rest_bounds(self.saying, self.calendars, node[1], rest)),
                                        waiting, {**rests, node[1]: rest})
                       for rest, tree in enumerate(node[2]))
        if word not in ("or", "late", "soon", "pair", "cross"):
            return False
        ways = self.ways(node, waiting)
        if ways is None:
            return False
        parts = node[len(node) - len(ways):]
        return all(self.right_known(part, force | set(bounds), left, rests) for part, (bounds, left) in zip(parts, ways))


def known_on(answers, log, promises, calendars, rule, day):
    """What a rule serves: of the calendars by its list, another one as it is laid."""
    if rule in calendars:
        return slow.on(calendars[rule], day)
    return slow.laid_on(answers, log, promises, rule, day)


def known_rule(word, served, day):
    """on, by or til of a rule that is told by a function, by going from day to day."""
    if word == "on":
        return served(day)
    at = day
    while served(at) >= day + (word == "til"):
        at -= 1
    while served(at) < day + (word == "til"):
        at += 1
    return at if word == "by" else at - 1


def known_day(told, days, served):
    """The day of a formula; served tells what a rule serves on a day."""
    word = told[0]
    if word in ("day", "num"):
        return days[told[1]] if word == "day" else told[1]
    if word in ("late", "soon"):
        return {"late": max, "soon": min}[word](known_day(part, days, served) for part in told[1:])
    day = known_day(told[2], days, served)
    if word == "add":
        return told[1] + day
    return known_rule(word, lambda at: served(told[1], at), day)


def known_holds(told, days, served):
    """Whether a saying holds; served tells what a rule serves on a day."""
    if told[0] == "le":
        return known_day(told[1], days, served) <= known_day(told[2], days, served)
    truths = [known_holds(part, days, served) for part in told[1:]]
    return not truths[0] if told[0] == "not" else all(truths) if told[0] == "and" else any(truths)


def is_known_break(picture, saying, log, promises, calendars):
    """Whether a picture is a known break."""
    days, answers = picture
    if any(rule in calendars for rule in answers) or slow.clash(answers, log, promises) is not None:
        return False
    if any(piece[0] == "day" and piece[1] not in days for piece in slow.pieces(saying)):
        return False
    return not known_holds(saying, days, lambda rule, day: known_on(answers, log, promises, calendars, rule, day))


def asked_of(told, days, served):
    """All that is asked while a saying is reckoned: a dict from rules to sorted lists of (asked, served)."""
    found = {}
    for piece in slow.pieces(told):
        if piece[0] in ("on", "by", "til"):
            if piece[0] == "on":
                asked = [known_day(piece[2], days, served)]
            else:
                day = known_day(piece, days, served)
                asked = [day, day - 1 if piece[0] == "by" else day + 1]
            found.setdefault(piece[1], set()).update((day, served(piece[1], day)) for day in asked)
    return {rule: sorted(found[rule]) for rule in sorted(found)}
