"""Written forms: formulas, sayings, Tables, Books, pictures and trees as lines of words."""

from leadrules.books import Book
from leadrules.common import need_few_pieces
from leadrules.errors import InvalidPicture, InvalidThing, InvalidTree
from leadrules.formulas import is_formula
from leadrules.pictures import has_form
from leadrules.sayings import is_saying
from leadrules.tables import Table
from leadrules.treeforms import all_nodes, head_of, is_formed
from leadrules.wordings import told_words


def written(thing):
    """The written form of a formula, a saying, a Table or a Book."""
    if isinstance(thing, Table):
        return _text_of([["table"] + _number_words(thing.days())])
    if isinstance(thing, Book):
        return _text_of(_book_lines(thing))
    words = _told_words(thing)
    return _text_of([["formula" if is_formula(thing) else "saying"] + words])


def words_of(thing):
    """The words of a formula or saying alone."""
    return " ".join(_told_words(thing))


def picture_text(picture):
    """The written form of what has the form of a picture."""
    if not has_form(picture):
        raise InvalidPicture(picture)
    days, answers = picture
    lines = [["picture"]] + [["day", name, str(days[name])] for name in sorted(days)]
    for rule in sorted(answers):
        lines.append(["rule", rule])
        lines.extend([["answer"] + _number_words(answer) for answer in answers[rule]])
    return _text_of(lines)


def tree_text(tree):
    """The written form of what has the form of a tree."""
    if not is_formed(tree) or not all([_is_filled(node) for node in all_nodes(tree)]):
        raise InvalidTree(tree)
    return _text_of([["tree"]] + [_node_words(node) for node in all_nodes(tree)])


def _told_words(thing):
    """The words of a formula or saying, once it is sure that it is one of few pieces."""
    if not is_formula(thing) and not is_saying(thing):
        raise InvalidThing(thing)
    need_few_pieces([thing])
    return told_words(thing)


def _book_lines(book):
    """The lines of a Book, lists of words."""
    lines = [["book"]] + [["row", rule, str(asked), str(served)] for rule, asked, served in book.log]
    for promise in book.promises:
        if promise[0] == "quick":
            lines.append(list(promise))
        else:
            lines.append(["lead", promise[1]] + ["-" if bound is None else str(bound) for bound in promise[2:]])
    return lines


def _is_filled(node):
    """Whether a node is no empty ring."""
    return node[0] != "ring" or len(node[1]) > 0


def _node_words(node):
    """The words of the line of a node."""
    if node[0] == "ring":
        return ["ring"] + _number_words([number for bound in node[1] for number in bound])
    return [node[0]] + _number_words(head_of(node)[1:])


def _number_words(numbers):
    """The words of numbers."""
    return [str(number) for number in numbers]


def _text_of(lines):
    """The string of lines that are told as lists of words."""
    return "".join([" ".join(words) + "\n" for words in lines])
