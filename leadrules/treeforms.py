"""What is FORMED like a tree, and whether it is right somewhere: no recursion, as trees may be nested deep."""

from leadrules.basics import is_count
from leadrules.leastways import are_bounds, has_ring_form

# How many numbers, and how many trees, stand behind the word of each node that is no ring.
NUMBERS = {"or": 0, "late": 1, "soon": 1, "pair": 2, "cross": 2}
TREES = {"or": 2, "late": 2, "soon": 2, "pair": 3, "cross": 2}


def is_formed(value):
    """Whether a value is formed like a tree."""
    waiting = [value]
    while waiting:
        node = waiting.pop()
        if not isinstance(node, tuple) or len(node) == 0 or not isinstance(node[0], str):
            return False
        if node[0] == "ring":
            if len(node) != 2 or not are_bounds(node[1]):
                return False
        elif not is_formed_split(node):
            return False
        else:
            waiting.extend(parts_of_node(node))
    return True


def parts_of_node(node):
    """The trees right within a node."""
    return () if node[0] == "ring" else node[1 + NUMBERS[node[0]]:]


def head_of(node):
    """What a node that is no ring begins with: its word and its numbers."""
    return node[:1 + NUMBERS[node[0]]]


def node_of(head, trees):
    """The node that begins so, with the trees right within it: those of a rest stand in a list."""
    return head + ((list(trees),) if head[0] == "rest" else tuple(trees))


def all_nodes(paper):
    """The list of all nodes of what is formed like a tree, each ahead of those in it, from the left."""
    found = []
    waiting = [paper]
    while waiting:
        node = waiting.pop()
        found.append(node)
        waiting.extend(parts_of_node(node)[::-1])
    return found


class Place:
    """A place of a tree: what is in force there besides the bounds from the beginning, and what waits."""

    def __init__(self, problem, added, waiting):
        self._problem = problem
        self._added = added
        self._waiting = waiting

    def within(self, node):
        """The list of the places of the trees right within a split here; None if there is no such split."""
        ways = self._problem.ways(head_of(node), self._waiting)
        if ways is None:
            return None
        return [Place(self._problem, self._added + bounds, waiting) for bounds, waiting in ways]

    def has_ring(self, node):
        """Whether a node is a ring of bounds that are in force here."""
        if not has_ring_form(node[1]):
            return False
        return all([bound in self._added or self._problem.is_given(bound) for bound in node[1]])

    def is_right(self, paper):
        """Whether what is formed like a tree is a tree here."""
        waiting = [(paper, self)]
        while waiting:
            node, place = waiting.pop()
            if node[0] == "ring":
                if not place.has_ring(node):
                    return False
            else:
                places = place.within(node)
                if places is None:
                    return False
                waiting.extend(list(zip(parts_of_node(node), places)))
        return True


def top_of(problem):
    """The place of a whole tree."""
    return Place(problem, problem.given, problem.waiting)


def is_formed_split(node):
    """Whether a tuple with a word has the form of a split, its trees not looked at."""
    if node[0] not in NUMBERS or len(node) != 1 + NUMBERS[node[0]] + TREES[node[0]]:
        return False
    return all([is_count(number) for number in head_of(node)[1:]])
