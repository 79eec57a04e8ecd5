"""What is sure beside a book, whatever the rules are that keep it."""

from leadrules.books import need_row
from leadrules.common import need_days, need_few_pieces
from leadrules.errors import TooMany
from leadrules.laid import is_break
from leadrules.pictures import is_kept, need_kept
from leadrules.sayings import need_saying, need_told, with_leaf
from leadrules.searches import found_out
from leadrules.trees import is_tree, tree

# A saying that never holds: so it holds for all rules that keep a book just if there are none.
NEVER_SO = ("le", ("num", 1), ("num", 0))


def is_broken(book):
    """Whether no rules keep a book."""
    return not is_kept(book)


def broken_paper(book):
    """A tree that shows that a book is broken; None if it is not."""
    return tree(NEVER_SO, book)


def is_broken_paper(value, book):
    """Whether a value is a tree that shows that a book is broken."""
    return is_tree(value, NEVER_SO, book)


def put_in(told, days):
    """What is told with days in the place of the names for which they are told."""
    need_told(told)
    need_days(days)
    need_few_pieces([told])
    return with_days(told, days)


def with_days(told, days):
    """As put_in, of what is known to be told, and of however many pieces."""
    for name, day in days.items():
        told = with_leaf(told, ("day", name), ("num", day))
    return told


def sureness(saying, book, days):
    """Whether a saying is "sure", "never" or "maybe" beside a book and days."""
    return sure_paper(saying, book, days)[0]


def sure_paper(saying, book, days):
    """A paper that shows how sure a saying is beside a book and days."""
    told, contrary = _both_put_in(saying, book, days)
    paper, picture = found_out(told, book)
    if paper is not None:
        return ("sure", paper)
    paper, other = found_out(contrary, book)
    return ("maybe", picture, other) if paper is None else ("never", paper)


def is_sure_paper(value, saying, book, days):
    """Whether a value is a paper that shows how sure a saying is beside a book and days."""
    told, contrary = _both_put_in(saying, book, days)
    if not isinstance(value, tuple) or len(value) < 2 or not isinstance(value[0], str):
        return False
    if value[0] == "maybe":
        return len(value) == 3 and is_break(value[1], told, book) and is_break(value[2], contrary, book)
    if value[0] not in ("sure", "never") or len(value) != 2:
        return False
    return is_tree(value[1], told if value[0] == "sure" else contrary, book)


def foretold(row, saying, book, days):
    """The sureness of a saying beside a book with a row more; "broken" if no rules keep this book."""
    need_row(row)
    need_saying(saying)
    need_days(days)
    need_kept(book)
    if len(book.log) == book.MOST_ROWS and row not in book.log:
        raise TooMany("rows", book.MOST_ROWS)
    need_few_pieces([("not", saying)])
    told = book.with_row(row)
    return "broken" if is_broken(told) else sureness(saying, told, days)


def _both_put_in(saying, book, days):
    """The saying, and not the saying, with the days put in, once it is sure that both can be asked of."""
    need_saying(saying)
    need_days(days)
    need_kept(book)
    need_few_pieces([("not", saying)])
    told = with_days(saying, days)
    return (told, ("not", told))
