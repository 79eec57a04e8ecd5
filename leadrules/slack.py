"""The greatest number of days by which a formula can be later than another one, beside a book."""

from leadrules.common import is_list, names_in, need_day, rules_in
from leadrules.errors import InvalidFormulas, TooMany
from leadrules.farthest import Farthest, need_few_for_slack, need_formulas, slack_saying_of
from leadrules.formulas import is_formula, reckoned
from leadrules.laid import laid_rules
from leadrules.pictures import is_kept, is_picture, need_kept
from leadrules.trees import tree

MOST_FORMULAS = 4


def slack_saying(first, second, number):
    """The saying that the first formula is never later than the second one and so many days."""
    need_formulas([first, second])
    need_day(number)
    need_few_for_slack(first, second)
    return slack_saying_of(first, second, number)


def least_slack(first, second, book):
    """The slack of two formulas; None for no slack."""
    return _farthest(first, second, book).slack


def span(first, second, book):
    """The least and the greatest number of days by which the first formula is later; None for no bound."""
    greatest = _farthest(first, second, book).slack
    turned = Farthest(second, first, book).slack
    return (None if turned is None else -turned, greatest)


def slack_tree(first, second, book):
    """A tree of the saying with the slack; None for no slack."""
    most = _farthest(first, second, book).slack
    return None if most is None else tree(slack_saying_of(first, second, most), book)


def farthest(first, second, book):
    """A picture in which the first formula is as much later as the slack tells; None for no slack."""
    found = _farthest(first, second, book)
    return None if found.slack is None else found.picture()


def is_farthest(value, first, second, book):
    """Whether a value is a picture in which the first formula is as much later as the slack tells."""
    need_formulas([first, second])
    need_few_for_slack(first, second)
    if not is_kept(book) or not is_picture(value, book):
        return False
    saying = ("le", first, second)
    if not all([name in value[0] for name in names_in(saying)]):
        return False
    laid = laid_rules(value, book, rules_in(saying))
    later = reckoned(first, value[0], laid) - reckoned(second, value[0], laid)
    return later == Farthest(first, second, book).slack


def slack_table(formulas, book):
    """The lists, one for each formula, of its slacks with each formula as the second one."""
    if not is_list(formulas) or not all([is_formula(formula) for formula in formulas]):
        raise InvalidFormulas(formulas)
    need_kept(book)
    if len(formulas) > MOST_FORMULAS:
        raise TooMany("formulas", MOST_FORMULAS)
    for formula in formulas:
        for other in formulas:
            need_few_for_slack(formula, other)
    return [[Farthest(first, second, book).slack for second in formulas] for first in formulas]


def _farthest(first, second, book):
    """What Farthest tells of two formulas, once it is sure that it can be asked."""
    need_formulas([first, second])
    need_kept(book)
    need_few_for_slack(first, second)
    return Farthest(first, second, book)
