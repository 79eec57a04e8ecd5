"""Asks: what must be asked, and on which days, so that it is settled whether a saying holds."""

from itertools import combinations

from leadrules.basics import is_day, is_rule
from leadrules.books import Book
from leadrules.common import is_list, names_in, need_few_pieces, rules_in
from leadrules.errors import InvalidAsks, InvalidServed, TooMany
from leadrules.formulas import joined_by
from leadrules.laid import laid_rules
from leadrules.pictures import is_kept, is_picture
from leadrules.sayings import is_so, need_saying, with_rules
from leadrules.searches import found_out
from leadrules.sure import sureness

MOST_ASKS = 4
MOST_RULES = 4
MOST_ROWS = 12
MOST_PROMISES = 6
FIRST_COPY = "abcd"
SECOND_COPY = "efgh"
TRUTHS = {"sure": "holds", "never": "fails", "maybe": "open"}


def settling(asks, saying, book):
    """The settling saying and the settling book of some asks."""
    _need_asked(asks, saying, book)
    rules = _rules_in_play(asks, saying, book)
    return (_saying_of(asks, saying, rules), _book_of(book, rules))


def settles(asks, saying, book):
    """Whether asks settle a saying beside a book."""
    told, both = settling(asks, saying, book)
    return found_out(told, both)[1] is None


def parting(asks, saying, book):
    """Two pictures that agree on the asks and differ in the saying; None if the asks settle it."""
    told, both = settling(asks, saying, book)
    picture = found_out(told, both)[1]
    if picture is None:
        return None
    rules = _rules_in_play(asks, saying, book)
    return (_copy_in(picture, rules, FIRST_COPY), _copy_in(picture, rules, SECOND_COPY))


def is_parting(value, asks, saying, book):
    """Whether a value is two pictures that agree on the asks and differ in the saying."""
    _need_asked(asks, saying, book)
    if not isinstance(value, tuple) or len(value) != 2 or not all([is_picture(part, book) for part in value]):
        return False
    first, second = value
    if sorted(first[0]) != names_in(saying) or first[0] != second[0]:
        return False
    rules = sorted(set(rules_in(saying) + [ask[0] for ask in asks]))
    laid, other = laid_rules(first, book, rules), laid_rules(second, book, rules)
    if not all([laid[rule].on(day) == other[rule].on(day) for rule, day in asks]):
        return False
    return is_so(saying, first[0], laid) and not is_so(saying, second[0], other)


def least_lots(menu, saying, book):
    """The sorted list of the least lots of a menu of asks, each a sorted list."""
    _need_asked(menu, saying, book)
    asks = sorted(menu)
    found = []
    for many in range(len(asks) + 1):
        # What has fewer asks was looked at ahead, so what settles here and has none of these in it is a least lot.
        for lot in combinations(asks, many):
            known = [all([ask in lot for ask in least]) for least in found]
            if not any(known) and settles(lot, saying, book):
                found.append(list(lot))
    return sorted(found)


def answered(asks, served, saying, book):
    """What answers to asks tell of a saying: "holds", "fails" or "open", "broken" if no rules give them."""
    _need_asks(asks)
    if not is_list(served) or len(served) != len(asks) or not all([is_day(day) for day in served]):
        raise InvalidServed(served)
    need_saying(saying)
    _need_few_asks(asks)
    told = Book(book.log + [ask + (day,) for ask, day in zip(asks, served)], book.promises)
    return TRUTHS[sureness(saying, told, {})] if is_kept(told) else "broken"


def _are_asks(value):
    """Whether a value is a list of unlike asks."""
    return is_list(value) and all([_is_ask(ask) for ask in value]) and len(set(list(value))) == len(value)


def _is_ask(value):
    """Whether a value is an ask: a tuple of a rule and a DAY."""
    return isinstance(value, tuple) and len(value) == 2 and is_rule(value[0]) and is_day(value[1])


def _need_asks(value):
    """Raise InvalidAsks unless the value is a list of unlike asks."""
    if not _are_asks(value):
        raise InvalidAsks(value)


def _need_few_asks(asks):
    """Raise TooMany if there are more than 4 asks."""
    if len(asks) > MOST_ASKS:
        raise TooMany("asks", MOST_ASKS)


def _need_asked(asks, saying, book):
    """Raise an error unless it can be told whether asks settle a saying beside a book."""
    _need_asks(asks)
    need_saying(saying)
    _need_few_asks(asks)
    rules = _rules_in_play(asks, saying, book)
    if len(rules) > MOST_RULES:
        raise TooMany("rules", MOST_RULES)
    if len(book.log) > MOST_ROWS:
        raise TooMany("rows", MOST_ROWS)
    if len(book.promises) > MOST_PROMISES:
        raise TooMany("promises", MOST_PROMISES)
    need_few_pieces([_saying_of(asks, saying, rules)])


def _rules_in_play(asks, saying, book):
    """The sorted list of the rules in play."""
    return sorted(set([ask[0] for ask in asks] + rules_in(saying) + book.rules))


def _copied(rules, letters):
    """The dict from rules to those of a copy."""
    return {rule: letter for rule, letter in zip(rules, letters)}


def _saying_of(asks, saying, rules):
    """The settling saying."""
    first, second = _copied(rules, FIRST_COPY), _copied(rules, SECOND_COPY)
    told = [_agreement(first[rule], second[rule], day) for rule, day in asks]
    return ("or", ("not", joined_by("and", told + [with_rules(saying, first)])), with_rules(saying, second))


def _agreement(rule, other, day):
    """The saying that two rules serve alike what is asked on a day."""
    one, two = ("on", rule, ("num", day)), ("on", other, ("num", day))
    return ("and", ("le", one, two), ("le", two, one))


def _book_of(book, rules):
    """The settling book."""
    log, promises = [], []
    for letters in (FIRST_COPY, SECOND_COPY):
        copied = _copied(rules, letters)
        log.extend([(copied[rule], asked, served) for rule, asked, served in book.log])
        promises.extend([_promise_of(promise, copied) for promise in book.promises])
    return Book(log, promises)


def _promise_of(promise, copied):
    """A promise of the rules of a copy."""
    if promise[0] == "quick":
        return ("quick", copied[promise[1]], copied[promise[2]])
    return ("lead", copied[promise[1]]) + promise[2:]


def _copy_in(picture, rules, letters):
    """The picture of the rules of a copy, under the names that they were copied from."""
    days, answers = picture
    told = {rule: list(answers[letter]) for rule, letter in zip(rules, letters) if letter in answers}
    return (dict(days), told)
