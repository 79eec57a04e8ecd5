"""The search for a known tree of a saying, a book and calendars, or for days that show that there is none."""

from leadrules.knownproblems import KnownProblem
from leadrules.rested import RestedClosure
from leadrules.searches import Search


class KnownSearch(Search):
    """A search beside calendars: read days are split by their rests, and leaves are legs."""

    def _told(self, closure, split):
        """Tell a closure the next way of a split: legs if it makes some, else None."""
        if split.head[0] == "rest":
            closure.take_rest(split.head[1], split.many_done(), split.mark)
        return super()._told(closure, split)

    def _part(self, ring):
        """The done part that legs make."""
        return legs_part(ring)

    def _rank(self, closure, head, ways):
        """By what splits are chosen: rests go behind all others, but where few may be."""
        if head[0] != "rest":
            return super()._rank(closure, head, ways)
        admitted = len([rest for rest, way in enumerate(ways)
                        if closure.admits_rest(head[1], rest) and closure.admits(way[0])])
        return (admitted if admitted < 2 else 3, -self._used.get(head, 0), admitted)

    def _unkept(self, case, days):
        """The dict from what can be split, and days do not keep one way of, to the ways."""
        found = super()._unkept(case, days)
        for day in self._problem.read:
            if not case.closure.has_rest(day) and not self._problem.is_served(day, days):
                found[("rest", day)] = [(self._problem.rest_bounds(day, rest), case.waiting)
                                        for rest in range(self._problem.many_rests)]
        return found


def legs_part(found):
    """The done part that legs, told with the marks that they need, make."""
    legs, needs = found
    return (("legs", legs), needs)


def known_out(saying, book, calendars):
    """A known tree, and None; or None, and a known break."""
    problem = KnownProblem(saying, book, calendars)
    closure = RestedClosure(problem.listed.many(), problem.many_rests)
    found = closure.tell(problem.bounds, 0)
    if found is None:
        found = closure.tell(problem.given, 0)
    if found is not None:
        return (legs_part(found)[0], None)
    search = KnownSearch(problem)
    tree = search.tree_of(closure, problem.waiting)
    return (tree, problem.picture(search.found) if tree is None else None)
