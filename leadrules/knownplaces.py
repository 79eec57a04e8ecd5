"""Whether a value is a known tree: the form is looked at along the way down, as only there it is known."""

from leadrules.basics import is_count
from leadrules.common import is_list
from leadrules.legs import have_legs_form
from leadrules.treeforms import head_of, is_formed_split, parts_of_node


class KnownPlace:
    """A place of a known tree: what is in force there besides the bounds from the beginning, what waits, and rests."""

    def __init__(self, problem, added, waiting, rests):
        self._problem = problem
        self._added = added
        self._waiting = waiting
        self._rests = rests

    def has_legs(self, value):
        """Whether a value is legs of bounds that are in force here."""
        if not have_legs_form(value, self._problem.many_rests, self._rests):
            return False
        return all([bound in self._added or self._problem.is_given(bound) for leg in value for bound in leg])

    def within(self, node):
        """The list of (tree, place) of the trees right within a split here; None if there is no such split."""
        if node[0] == "rest":
            return self._within_rest(node)
        if not is_formed_split(node):
            return None
        ways = self._problem.ways(head_of(node), self._waiting)
        if ways is None:
            return None
        return [(tree, KnownPlace(self._problem, self._added + bounds, waiting, self._rests))
                for tree, (bounds, waiting) in zip(parts_of_node(node), ways)]

    def _within_rest(self, node):
        """As within, of a tuple with the word of a rest."""
        if len(node) != 3 or not is_count(node[1]) or not is_list(node[2]) or len(node[2]) != self._problem.many_rests:
            return None
        day, trees = node[1:]
        if day not in self._problem.read or day in self._rests:
            return None
        found = []
        for rest, tree in enumerate(trees):
            rests = dict(self._rests)
            rests[day] = rest
            added = self._added + self._problem.rest_bounds(day, rest)
            found.append((tree, KnownPlace(self._problem, added, self._waiting, rests)))
        return found


def is_right_known(value, problem):
    """Whether a value is a known tree of a problem."""
    waiting = [(value, KnownPlace(problem, problem.given, problem.waiting, {0: 0}))]
    while waiting:
        node, place = waiting.pop()
        if not isinstance(node, tuple) or len(node) == 0 or not isinstance(node[0], str):
            return False
        if node[0] == "legs":
            if len(node) != 2 or not place.has_legs(node[1]):
                return False
        else:
            parts = place.within(node)
            if parts is None:
                return False
            waiting.extend(parts)
    return True
