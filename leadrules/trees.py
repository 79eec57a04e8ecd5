"""Trees: they show that a saying holds for all rules and days that keep a book."""

from leadrules.common import need_few_pieces
from leadrules.errors import InvalidTree
from leadrules.problems import Problem
from leadrules.sayings import need_saying
from leadrules.searches import found_out
from leadrules.treeforms import all_nodes, head_of, is_formed, parts_of_node, top_of


def tree(saying, book):
    """A tree of a saying and a book; None where the saying is broken."""
    need_saying(saying)
    need_few_pieces([saying])
    return found_out(saying, book)[0]


def is_tree(value, saying, book):
    """Whether a value is a tree of a saying and a book."""
    need_saying(saying)
    need_few_pieces([saying])
    return is_formed(value) and top_of(Problem(saying, book)).is_right(value)


def size(paper):
    """How many nodes a tree has, rings too."""
    _need_formed(paper)
    return len(all_nodes(paper))


def rings(paper):
    """The rings of a tree, lists of bounds, from the left."""
    _need_formed(paper)
    return [list(node[1]) for node in all_nodes(paper) if node[0] == "ring"]


def is_spare(paper, saying, book):
    """Whether a tree has no needless splits."""
    return _is_spare_at(_top_of_tree(paper, saying, book), paper)


def shorter(paper, saying, book):
    """A spare tree, of at most as many nodes as the one that is passed."""
    return _without_needless(_top_of_tree(paper, saying, book), paper)


def _need_formed(value):
    """Raise InvalidTree unless the value is formed like a tree."""
    if not is_formed(value):
        raise InvalidTree(value)


def _top_of_tree(paper, saying, book):
    """The place of a tree, which must be one of the saying and the book."""
    _need_formed(paper)
    need_saying(saying)
    need_few_pieces([saying])
    place = top_of(Problem(saying, book))
    if not place.is_right(paper):
        raise InvalidTree(paper)
    return place


def _is_spare_at(place, paper):
    """Whether a tree, right at a place, has no needless splits."""
    return all([not at.is_right(part) for node, at in _nodes_and_places(place, paper)
                for part in parts_of_node(node)])


def _nodes_and_places(place, paper):
    """The list of all nodes of a tree, right at a place, with their places, each ahead of those in it."""
    found = []
    waiting = [(paper, place)]
    while waiting:
        node, at = waiting.pop()
        found.append((node, at))
        if node[0] != "ring":
            waiting.extend(list(zip(parts_of_node(node), at.within(node)))[::-1])
    return found


def _without_needless(place, paper):
    """A tree, right at a place, with one of the trees within in the place of each needless split."""
    # Once is enough: what stands in the place of a split has fewer bounds in force, so nothing within it becomes
    # right; and an or in it would not be right there, or was needless ahead of that.
    made = []
    # Those within a node come ahead of it so, the last one first: they are the last ones made.
    for node, at in _nodes_and_places(place, paper)[::-1]:
        many = len(parts_of_node(node))
        if many == 0:
            made.append(("ring", list(node[1])))
        else:
            parts = made[len(made) - many:][::-1]
            del made[len(made) - many:]
            made.append(_shortest_at(at, parts, head_of(node) + tuple(parts)))
    return made[0]


def _shortest_at(place, parts, whole):
    """The one of the fewest nodes of the parts that are right at a place; the whole tree if none is."""
    right = [part for part in parts if place.is_right(part)]
    return min(right, key=size) if right else whole
