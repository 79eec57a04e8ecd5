"""Slow reckoning of day lists, bounds, trees and verdicts, straight from the document's words.

Nothing of the package is used.
"""

from tests import slow


def formulas_of(told):
    """All formulas of a saying where they end, from the left, each as often as it stands there."""
    found = []
    for part in told[1:]:
        if isinstance(part, tuple):
            found.extend(formulas_of(part))
    if told[0] not in ("le", "and", "or", "not"):
        found.append(told)
    return found


def own_days(saying):
    """Day 0 and the formulas of a saying, each once."""
    found = [("num", 0)]
    for formula in formulas_of(saying):
        if formula not in found:
            found.append(formula)
    return found


def helpers(formula):
    """Both helpers of a by or til."""
    word, rule, _ = formula
    return [("on", rule, formula), ("on", rule, ("add", -1 if word == "by" else 1, formula))]


def days_of(saying):
    found = own_days(saying)
    for formula in own_days(saying):
        if formula[0] in ("by", "til"):
            found.extend([helper for helper in helpers(formula) if helper not in found])
    return found


def places_of(saying, log):
    listed, found = days_of(saying), []

    def add(place):
        if place not in found:
            found.append(place)

    for formula in own_days(saying):
        if formula[0] == "on":
            add((formula[1], listed.index(formula[2]), 0, listed.index(formula), 0))
    for formula in own_days(saying):
        if formula[0] in ("by", "til"):
            first, second = helpers(formula)
            add((formula[1], listed.index(formula), 0, listed.index(first), 0))
            add((formula[1], listed.index(formula), -1 if formula[0] == "by" else 1, listed.index(second), 0))
    for rule, asked, served in sorted(set(log)):
        add((rule, 0, asked, 0, served))
    return found


def bounds_of(saying, log, promises):
    listed, found = days_of(saying), set()
    for number, formula in enumerate(own_days(saying)):
        parts = [listed.index(part) for part in formula[1:] if isinstance(part, tuple)]
        word = formula[0]
        if word == "num" and number > 0:
            found |= {(number, 0, formula[1]), (0, number, -formula[1])}
        elif word == "add":
            found |= {(number, parts[0], formula[1]), (parts[0], number, -formula[1])}
        elif word == "late":
            found |= {(part, number, 0) for part in parts}
        elif word == "soon":
            found |= {(number, part, 0) for part in parts}
        elif word in ("by", "til"):
            first, second = [listed.index(helper) for helper in helpers(formula)]
            found |= {(parts[0], first, 0), (second, parts[0], -1)} if word == "by" else {
                (first, parts[0], 0), (parts[0], second, -1)}
    for rule, day, shift, answer, answer_shift in places_of(saying, log):
        if slow.low(promises, rule) is not None:
            found.add((day, answer, answer_shift - shift - slow.low(promises, rule)))
        if slow.high(promises, rule) is not None:
            found.add((answer, day, slow.high(promises, rule) + shift - answer_shift))
    for rule in slow.torn(promises):
        found.add((0, 0, slow.high(promises, rule) - slow.low(promises, rule)))
    return sorted(found)


def contrary(saying):
    """not ahead of le alone, and the truth turned."""
    if saying[0] == "le":
        return ("not", saying)
    if saying[0] == "not":
        return pushed(saying[1])
    return ({"and": "or", "or": "and"}[saying[0]], contrary(saying[1]), contrary(saying[2]))


def pushed(saying):
    if saying[0] == "le":
        return saying
    if saying[0] == "not":
        return contrary(saying[1])
    return (saying[0], pushed(saying[1]), pushed(saying[2]))


def opened(told, listed):
    """What a saying that is pushed in gives: bounds and waiting ors."""
    if told[0] == "le":
        return [(listed.index(told[1]), listed.index(told[2]), 0)], []
    if told[0] == "not":
        return [(listed.index(told[1][2]), listed.index(told[1][1]), -1)], []
    if told[0] == "or":
        return [], [told]
    first, second = opened(told[1], listed), opened(told[2], listed)
    return first[0] + second[0], first[1] + second[1]


def asked(place):
    return place[1], place[2]


def served(place):
    return place[3], place[4]


def at_most(first, second, less=0):
    """The bound that a day and shift is at most another day and shift, less so many days."""
    return (first[0], second[0], second[1] - less - first[1])


def pair_ways(i, j):
    p, q, P, Q = asked(i), asked(j), served(i), served(j)
    return ([at_most(p, q, 1), at_most(P, Q)], [at_most(p, q), at_most(q, p), at_most(P, Q), at_most(Q, P)],
            [at_most(q, p, 1), at_most(Q, P)])


def cross_ways(i, j):
    p, q, P, Q = asked(i), asked(j), served(i), served(j)
    return [at_most(p, q), at_most(P, Q)], [at_most(q, p, 1)]


def ring_sum(ring):
    """The sum of a ring; None if it is none."""
    if not ring or any(ring[at - 1][1] != ring[at][0] for at in range(len(ring))):
        return None
    return sum(most for _, _, most in ring)


class Judge:
    """Judges trees of a saying and a book of rows and promises."""

    def __init__(self, saying, log, promises):
        self.listed = days_of(saying)
        self.own = own_days(saying)
        self.places = places_of(saying, log)
        self.promises = promises
        bounds, self.waiting = opened(contrary(saying), self.listed)
        self.force = set(bounds_of(saying, log, promises)) | set(bounds)

    def is_tree(self, node):
        return self.right(node, self.force, self.waiting)

    def right(self, node, force, waiting):
        if node[0] == "ring":
            total = ring_sum(node[1])
            return total is not None and total < 0 and all(bound in force for bound in node[1])
        ways = self.ways(node, waiting)
        if ways is None:
            return False
        parts = node[len(node) - len(ways):]
        return all(self.right(part, force | set(bounds), left) for part, (bounds, left) in zip(parts, ways))

    def ways(self, node, waiting):
        """The ways of a split as (bounds, waiting); None if there is none such."""
        word = node[0]
        if word == "or":
            if not waiting:
                return None
            opens = [opened(part, self.listed) for part in waiting[0][1:]]
            return [(bounds, waiting[1:] + more) for bounds, more in opens]
        if word in ("late", "soon"):
            return self.end_ways(word, node[1], waiting)
        i, j = node[1:3]
        if max(i, j) >= len(self.places):
            return None
        return self.place_ways(word, i, j, waiting)

    def end_ways(self, word, number, waiting):
        if number >= len(self.own) or self.own[number][0] != word:
            return None
        parts = [self.listed.index(part) for part in self.own[number][1:]]
        return [([(number, part, 0) if word == "late" else (part, number, 0)], waiting) for part in parts]

    def place_ways(self, word, i, j, waiting):
        first, second = self.places[i], self.places[j]
        if word == "pair":
            if i >= j or first[0] != second[0]:
                return None
            return [(bounds, waiting) for bounds in pair_ways(first, second)]
        if first[0] == second[0] or first[0] not in slow.beneath(self.promises, second[0]):
            return None
        return [(bounds, waiting) for bounds in cross_ways(first, second)]

    def spare(self, node):
        """Whether a tree has no needless split."""
        return self.spare_at(node, self.force, self.waiting)

    def spare_at(self, node, force, waiting):
        if node[0] == "ring":
            return True
        ways = self.ways(node, waiting)
        parts = node[len(node) - len(ways):]
        if any(self.right(part, force, waiting) for part in parts):
            return False
        return all(self.spare_at(part, force | set(bounds), left) for part, (bounds, left) in zip(parts, ways))

    def all_splits(self):
        """The ways of all splits but ors."""
        found = [self.end_ways(formula[0], number, [])
                 for number, formula in enumerate(self.own) if formula[0] in ("late", "soon")]
        spots = range(len(self.places))
        found += [self.place_ways(word, i, j, []) for word in ("pair", "cross") for i in spots for j in spots]
        return [[bounds for bounds, _ in ways] for ways in found if ways is not None]

    def or_choices(self, waiting):
        """All lists of bounds that choosing a part of each waiting or gives."""
        if not waiting:
            return [[]]
        found = []
        for bounds, left in self.ways(("or",), waiting):
            found.extend([bounds + more for more in self.or_choices(left)])
        return found

    def days_of_a_picture(self):
        """Days that keep one way of each split, found by going through all choices; None without any."""
        splits = self.all_splits()
        for chosen in self.or_choices(self.waiting):
            days = self.chosen_on(splits, list(self.force) + chosen)
            if days is not None:
                return days
        return None

    def chosen_on(self, splits, bounds):
        """As days_of_a_picture, with these bounds in force, of the splits that are left."""
        days = least_days(len(self.listed), bounds)
        if days is None or not splits:
            return days
        for ways in splits[0]:
            found = self.chosen_on(splits[1:], bounds + ways)
            if found is not None:
                return found
        return None

    def verdict(self):
        return "all" if self.days_of_a_picture() is None else "breaks"


def least_days(many, bounds):
    """The least days, by raising days until all bounds are kept; None where they are raised too far."""
    days = [0] * many
    most = sum(abs(bound[2]) for bound in bounds) + 1
    while True:
        short = [bound for bound in bounds if days[bound[0]] - days[bound[1]] > bound[2]]
        if not short:
            return [day - days[0] for day in days]
        first, second, gap = short[0]
        days[second] = days[first] - gap
        if days[second] > most:
            return None


def nodes(node):
    """How many nodes a tree has."""
    return 1 + sum(nodes(part) for part in node[1:] if isinstance(part, tuple)) if node[0] != "ring" else 1


def rings(node):
    """The rings of a tree, from the left."""
    if node[0] == "ring":
        return [list(node[1])]
    return [ring for part in node[1:] if isinstance(part, tuple) for ring in rings(part)]
