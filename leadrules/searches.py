"""The search for a tree of a saying and a book, or for days that show that there is none."""

from leadrules.closures import Closure
from leadrules.errors import TooMany
from leadrules.leastways import all_kept
from leadrules.problems import Problem
from leadrules.treeforms import node_of

MOST_NODES = 4000


class Case:
    """What is in force at a place of a tree: a closure, the waiting ors, and the marks of the ors that were split."""

    def __init__(self, closure, waiting, marks):
        self.closure = closure
        self.waiting = waiting
        self.marks = marks


class Split:
    """A split on the way down: its ways still to go, and the trees of those that are done.

    A done part is (tree, needs): needs is the sum of the marks of all splits ahead without which the tree
    would not be right.
    """

    def __init__(self, case, head, ways, mark):
        self.case = case
        self.head = head
        self.mark = mark
        self._ways = ways
        self._trees = []
        # Which or is split hangs on all the ors that were split ahead of it.
        self._needs = case.marks if head[0] == "or" else 0
        self._done = None

    def many_done(self):
        """How many ways are done."""
        return len(self._trees)

    def next_way(self):
        """The (bounds, waiting) of the next way."""
        return self._ways[len(self._trees)]

    def is_or(self):
        """Whether an or is split."""
        return self.head[0] == "or"

    def take(self, done):
        """Take the part of a way that is done."""
        tree, needs = done
        self._trees.append(tree)
        self._needs = self._needs | (needs - (needs & self.mark))
        if needs & self.mark == 0:
            # The tree does without what this way brought: it stands in the place of the whole split.
            self._done = done
        elif len(self._trees) == len(self._ways):
            self._done = (node_of(self.head, self._trees), self._needs)

    def done(self):
        """The part that stands for the whole split; None as long as it is not done."""
        return self._done


class Search:
    """A search: either a tree is found, or days that keep all bounds and all that a picture needs."""

    def __init__(self, problem):
        self._problem = problem
        self._splits = [split for split in problem.splits() if not _is_settled(split)]
        self._open = []
        self._nodes = 0
        # How often each split had a part in a ring: such ones are split ahead of others.
        self._used = {}
        self.found = None
        self.closure = None

    def tree_of(self, closure, waiting):
        """A tree for what is in force; None where days are found."""
        done, case = None, Case(closure, waiting, 0)
        while done is None or self._open:
            if done is None:
                split = self._next_split(case)
                if split is None:
                    return None
                self._open.append(split)
            else:
                self._open[-1].take(done)
            done = self._open[-1].done()
            if done is not None:
                self._open.pop()
            else:
                done, case = self._gone_down(self._open[-1])
        return done[0]

    def _count(self):
        """Count a node more."""
        self._nodes += 1
        if self._nodes > MOST_NODES:
            raise TooMany("nodes", MOST_NODES)

    def _gone_down(self, split):
        """The next way of a split, as (done, None) if it ends in a ring, as (None, case) otherwise."""
        closure = split.case.closure.copied()
        ring = self._told(closure, split)
        if ring is not None:
            self._count()
            return (self._closed_by(ring), None)
        marks = split.case.marks | split.mark if split.is_or() else split.case.marks
        return (None, Case(closure, split.next_way()[1], marks))

    def _told(self, closure, split):
        """Tell a closure the next way of a split: a ring if it makes one, else None."""
        return closure.tell(split.next_way()[0], split.mark)

    def _part(self, ring):
        """The done part that a ring makes."""
        return ring_part(ring)

    def _rank(self, closure, head, ways):
        """By what splits are chosen, told what is in force: the least one goes first."""
        admitted = len([way for way in ways if closure.admits(way[0])])
        return (min(admitted, 2), -self._used.get(head, 0), admitted)

    def _closed_by(self, ring):
        """The done part that a ring makes."""
        done = self._part(ring)
        for split in self._open:
            if done[1] & split.mark != 0:
                self._used[split.head] = self._used.get(split.head, 0) + 1
        return done

    def _next_split(self, case):
        """The split with which a case goes on; None where days are found that show a picture."""
        self._count()
        unkept = {}
        # What is kept by some days by chance is often not by others: so both ends are looked at.
        for days in (case.closure.least_days(), case.closure.greatest_days()):
            heads = self._unkept(case, days)
            if not heads:
                self.found, self.closure = days, case.closure
                return None
            for head, ways in heads.items():
                unkept[head] = ways
        best, place = None, None
        for head, ways in unkept.items():
            other = self._rank(case.closure, head, ways)
            if best is None or other < place:
                best, place = head, other
        return Split(case, best, unkept[best], 1 << len(self._open))

    def _unkept(self, case, days):
        """The dict from what can be split, and days do not keep one way of, to the ways."""
        found = {}
        for head, ways in self._splits:
            if not keeps_one(ways, days):
                found[head] = [(bounds, case.waiting) for bounds in ways]
        if not all([self._problem.holds(saying, days) for saying in case.waiting]):
            found[("or",)] = self._problem.or_ways(case.waiting)
        return found


def keeps_one(ways, days):
    """Whether days keep all bounds of one of some ways."""
    for bounds in ways:
        if all_kept(bounds, days):
            return True
    return False


def ring_part(ring):
    """The done part that a ring, a list of (bound, mark), makes."""
    needs = 0
    for _, mark in ring:
        needs = needs | mark
    return (("ring", [told[0] for told in ring]), needs)


def begun(problem):
    """The closure of the bounds from the beginning, without the contrary, and a ring of them, or None."""
    closure = Closure(problem.listed.many())
    return (closure, closure.tell(problem.bounds, 0))


def found_out(saying, book):
    """A tree of a saying and a book, and None; or None, and a picture that breaks the saying."""
    problem = Problem(saying, book)
    closure, ring = begun(problem)
    if ring is None:
        ring = closure.tell(problem.given, 0)
    if ring is not None:
        return (ring_part(ring)[0], None)
    search = Search(problem)
    tree = search.tree_of(closure, problem.waiting)
    return (tree, problem.picture(search.found) if tree is None else None)


def _is_settled(split):
    """Whether a split is of two rows of the log that keep the order of asked and served days."""
    _, ways = split
    return max([max(bound[:2]) for bounds in ways for bound in bounds]) == 0 and keeps_one(ways, [0])
