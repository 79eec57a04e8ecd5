"""Which rows and promises of a book show that a saying holds, or that the book is broken."""

from itertools import combinations

from leadrules.books import Book, is_promise, is_row
from leadrules.common import is_list, need_few_pieces
from leadrules.errors import InvalidRows, MissingRow, TooMany
from leadrules.laid import is_break
from leadrules.pictures import is_kept, need_kept
from leadrules.sayings import need_saying
from leadrules.searches import found_out
from leadrules.trees import is_tree

MOST_ROWS = 8


def enough(rows, saying, book):
    """Whether some rows of a book's log, with all its promises, are enough for a saying to hold for all."""
    if not is_list(rows) or not all([is_row(row) for row in rows]):
        raise InvalidRows(rows)
    need_saying(saying)
    log = book.log
    for row in rows:
        if row not in log:
            raise MissingRow(row)
    _need_asked(saying, book)
    return _holds(rows, book.promises, saying)


def first_reason(saying, book):
    """The rows that are left when each one is struck without which the others are still enough; None without any."""
    _need_asked(saying, book)
    if not _holds(book.log, book.promises, saying):
        return None
    return _rows_left(book.log, book.promises, saying)


def all_reasons(saying, book):
    """The sorted list of all reasons."""
    need_saying(saying)
    need_kept(book)
    if len(book.log) > MOST_ROWS:
        raise TooMany("rows", MOST_ROWS)
    need_few_pieces([saying])
    found = []
    if not _holds(book.log, book.promises, saying):
        return found
    log = book.log
    for many in range(len(log) + 1):
        # What has fewer rows was looked at ahead, so what is enough here and has none of these in it is a reason.
        for rows in combinations(log, many):
            known = [all([row in rows for row in reason]) for reason in found]
            if not any(known) and _holds(rows, book.promises, saying):
                found.append(list(rows))
    return sorted(found)


def is_reason(value, saying, book):
    """Whether a value is a reason."""
    _need_asked(saying, book)
    return _are_rows_of(value, book) and _is_least(list(value), book.promises, saying)


def needed_rows(saying, book):
    """The rows without which the rest of the log is not enough; None if the saying does not hold."""
    _need_asked(saying, book)
    if not _holds(book.log, book.promises, saying):
        return None
    return [row for row in book.log if not _holds(_without(book.log, row), book.promises, saying)]


def reason_paper(saying, book):
    """A paper of the first reason; None without one."""
    rows = first_reason(saying, book)
    if rows is None:
        return None
    pictures = [found_out(saying, Book(_without(rows, row), book.promises))[1] for row in rows]
    return (rows, found_out(saying, Book(rows, book.promises))[0], pictures)


def is_reason_paper(value, saying, book):
    """Whether a value is a paper of a reason."""
    _need_asked(saying, book)
    if not isinstance(value, tuple) or len(value) != 3 or not _are_rows_of(value[0], book):
        return False
    rows, paper, pictures = value
    if not is_list(pictures) or len(pictures) != len(rows):
        return False
    breaks = [is_break(picture, saying, Book(_without(rows, row), book.promises))
              for row, picture in zip(rows, pictures)]
    return all(breaks) and is_tree(paper, saying, Book(rows, book.promises))


def first_quarrel(book):
    """The rows of a broken book that are left when each one is struck that it does not need; None if it is kept."""
    if is_kept(book):
        return None
    rows = book.log
    for row in book.log[::-1]:
        if not is_kept(Book(_without(rows, row), book.promises)):
            rows = _without(rows, row)
    return rows


def is_quarrel(value, book):
    """Whether a value is a quarrel of a broken book."""
    if not _are_rows_of(value, book) or is_kept(Book(value, book.promises)):
        return False
    return all([is_kept(Book(_without(value, row), book.promises)) for row in value])


def first_cause(saying, book):
    """The rows and promises that are left when each is struck that is not needed, promises first; None without any."""
    _need_asked(saying, book)
    if not _holds(book.log, book.promises, saying):
        return None
    promises = book.promises
    for promise in book.promises[::-1]:
        if _holds(book.log, _without(promises, promise), saying):
            promises = _without(promises, promise)
    return (_rows_left(book.log, promises, saying), promises)


def is_cause(value, saying, book):
    """Whether a value is a cause."""
    _need_asked(saying, book)
    if not isinstance(value, tuple) or len(value) != 2:
        return False
    rows, promises = value
    if not _are_rows_of(rows, book) or not _are_promises_of(promises, book):
        return False
    if not _is_least(list(rows), promises, saying):
        return False
    return not any([_holds(rows, _without(promises, promise), saying) for promise in promises])


def _need_asked(saying, book):
    """Raise an error unless it can be asked of a saying and a book whether it holds."""
    need_saying(saying)
    need_kept(book)
    need_few_pieces([saying])


def _holds(rows, promises, saying):
    """Whether a saying holds for all rules that keep a book of these rows and promises."""
    return found_out(saying, Book(rows, promises))[1] is None


def _is_least(rows, promises, saying):
    """Whether a saying holds beside these rows and promises, and without any one of the rows does not."""
    if not _holds(rows, promises, saying):
        return False
    return not any([_holds(_without(rows, row), promises, saying) for row in rows])


def _rows_left(log, promises, saying):
    """The rows that are left of a log when, from the last one on, each one is struck that is not needed."""
    rows = log
    for row in log[::-1]:
        if _holds(_without(rows, row), promises, saying):
            rows = _without(rows, row)
    return rows


def _without(things, one):
    """The list of the things without one of them."""
    return [thing for thing in things if thing != one]


def _are_rows_of(value, book):
    """Whether a value is a sorted list of rows of a book's log, none twice."""
    if not is_list(value) or not all([is_row(row) for row in value]):
        return False
    return list(value) == [row for row in book.log if row in value]


def _are_promises_of(value, book):
    """Whether a value is a list of promises of a book, as this keeps them, none twice."""
    if not is_list(value) or not all([is_promise(promise) for promise in value]):
        return False
    return list(value) == [promise for promise in book.promises if promise in value]
