"""Promises that follow from a book, and those that it does not need."""

from leadrules.beneath import beneath, high, low
from leadrules.books import Book, need_promise
from leadrules.common import need_rule
from leadrules.pictures import need_kept

X = ("day", "x")


def follows(promise, book):
    """Whether all rules that keep a book keep a promise."""
    need_promise(promise)
    need_kept(book)
    return _follows(promise, book)


def follow_saying(promise):
    """The saying that holds beside a book just if a promise follows from it."""
    need_promise(promise)
    served = ("on", promise[1], X)
    if promise[0] == "quick":
        return ("le", served, ("on", promise[2], X))
    least, most = promise[2:]
    if least is None:
        return ("le", served, ("add", most, X))
    if most is None:
        return ("le", ("add", least, X), served)
    return ("and", ("le", ("add", least, X), served), ("le", served, ("add", most, X)))


def needless(book):
    """The promises of a book that follow from it without them, as it keeps them."""
    need_kept(book)
    return [promise for promise in book.promises if _follows(promise, book.without_promise(promise))]


def slim(book):
    """The book with each promise struck, from the last one on, that follows from what is left."""
    need_kept(book)
    left = Book(book.log, book.promises)
    for promise in book.promises[::-1]:
        if _follows(promise, left.without_promise(promise)):
            left = left.without_promise(promise)
    return left


def sure_lead(book, rule):
    """The greatest least and the least most of the leads of a rule that follow, each perhaps None."""
    need_rule(rule)
    need_kept(book)
    return (low(book, rule), high(book, rule))


def quicker(book):
    """The sorted list of (rule, other) of unlike rules in a book of which the first is sure to be quicker."""
    need_kept(book)
    return [(rule, other) for rule in book.rules for other in book.rules
            if rule != other and _follows(("quick", rule, other), book)]


def _follows(promise, book):
    """As follows, of a promise and a book that some rules keep."""
    least, most = low(book, promise[1]), high(book, promise[1])
    if promise[0] == "quick":
        other_least = low(book, promise[2])
        far = most is not None and other_least is not None and most <= other_least
        return far or promise[1] in beneath(book, promise[2])
    if promise[2] is not None and (least is None or least < promise[2]):
        return False
    return promise[3] is None or (most is not None and most <= promise[3])
