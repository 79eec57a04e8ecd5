"""The days that a formula may have beside a book, and by which day one must ask."""

from leadrules.common import need_count, need_day, need_days, need_few_pieces, rules_in
from leadrules.errors import NoTurn, TooMany
from leadrules.farthest import Farthest
from leadrules.formulas import has_one_name, need_formula, need_names, reckoned
from leadrules.laid import laid_rules
from leadrules.pictures import is_picture, need_kept
from leadrules.searches import found_out
from leadrules.sure import with_days
from leadrules.turning import turned_by

MOST_DAYS = 30


def least_answer(formula, book, days):
    """The least possible answer of a formula; None where there is none."""
    return _least_of(_formula_put_in(formula, book, days), book)


def greatest_answer(formula, book, days):
    """The greatest possible answer of a formula; None where there is none."""
    return _greatest_of(_formula_put_in(formula, book, days), book)


def giving(formula, day, book, days):
    """A picture in which the formula is this day; None if there is none."""
    return found_out(_saying_of_another(formula, day, book, days), book)[1]


def is_giving(value, formula, day, book, days):
    """Whether a value is a picture in which the formula is this day."""
    _saying_of_another(formula, day, book, days)
    if not is_picture(value, book):
        return False
    return reckoned(formula, days, laid_rules(value, book, rules_in(formula))) == day


def possible(formula, day, book, days):
    """Whether a day is a possible answer of a formula."""
    return giving(formula, day, book, days) is not None


def possible_days(formula, day, many, book, days):
    """The sorted list of the possible answers among so many days from a day on."""
    need_formula(formula)
    need_day(day)
    need_count(many)
    _need_answer(formula, book, days)
    if many > MOST_DAYS:
        raise TooMany("days", MOST_DAYS)
    need_few_pieces([_other_than(formula, day)])
    told = with_days(formula, days)
    return [day + more for more in range(many) if found_out(_other_than(told, day + more), book)[1] is not None]


def last_sure(formula, day, book):
    """The last day of the formula's name on which asking surely comes in time by a day; None without one."""
    return _least_of(_turned_by_day(formula, day, book), book)


def last_hope(formula, day, book):
    """The last day of the formula's name on which asking may come in time by a day; None without one."""
    return _greatest_of(_turned_by_day(formula, day, book), book)


def _least_of(formula, book):
    """The least possible answer of a formula without names."""
    slack = Farthest(("num", 0), formula, book).slack
    return None if slack is None else -slack


def _greatest_of(formula, book):
    """The greatest possible answer of a formula without names."""
    return Farthest(formula, ("num", 0), book).slack


def _need_answer(formula, book, days):
    """Raise an error unless days tell all names of a formula, and some rules keep the book."""
    need_days(days)
    need_names(formula, days)
    need_kept(book)


def _formula_put_in(formula, book, days):
    """The formula with the days put in, once it is sure that it can be asked of."""
    need_formula(formula)
    _need_answer(formula, book, days)
    need_few_pieces([formula, ("num", 0)])
    return with_days(formula, days)


def _saying_of_another(formula, day, book, days):
    """The saying that the formula with the days put in is not this day, once it is sure that it can be asked of."""
    need_formula(formula)
    need_day(day)
    _need_answer(formula, book, days)
    need_few_pieces([_other_than(formula, day)])
    return _other_than(with_days(formula, days), day)


def _other_than(formula, day):
    """The saying that a formula is not a day."""
    return ("not", ("and", ("le", formula, ("num", day)), ("le", ("num", day), formula)))


def _turned_by_day(formula, day, book):
    """The formula turned down by a day, once it is sure that it can be asked of."""
    need_formula(formula)
    need_day(day)
    if not has_one_name(formula):
        raise NoTurn(formula)
    need_kept(book)
    need_few_pieces([formula])
    turned = turned_by(formula, ("num", day), True)
    need_few_pieces([turned, ("num", 0)])
    return turned
