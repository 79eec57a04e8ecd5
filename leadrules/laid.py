"""Pictures laid to whole rules, and the sayings that they break."""

from leadrules.beneath import beneath, high, low
from leadrules.common import names_in, need_count, need_day, need_few_pieces, need_rule, rules_in
from leadrules.errors import InvalidPicture, TooMany
from leadrules.formulas import need_formula, need_names, reckoned
from leadrules.pictures import is_picture, need_picture, places_in
from leadrules.sayings import is_so, need_saying

MOST_DAYS = 1000


class LaidRule:
    """A whole rule that a base and some places tell."""

    def __init__(self, lead, spots):
        self._lead = lead
        self._spots = list(spots)

    def on(self, day):
        """The day on which is served what is asked on a day."""
        return max([day + self._lead] + [served for asked, served in self._spots if asked <= day])

    def by(self, day):
        """The first day to ask, to be served on a day or later."""
        return min([day - self._lead] + [asked for asked, served in self._spots if served >= day])

    def til(self, day):
        """The last day to ask, to be served on a day or earlier."""
        return self.by(day + 1) - 1


def base(picture, book, rule):
    """The base of a rule, for a picture of a book."""
    need_picture(picture, book)
    need_rule(rule)
    return _base_of(rule, book, places_in(picture, book))


def laid_on(picture, book, rule, day):
    """The day on which the laid rule serves what is asked on a day."""
    return _rule_to_ask(picture, book, rule, day).on(day)


def laid_by(picture, book, rule, day):
    """The first day to ask the laid rule, to be served on a day or later."""
    return _rule_to_ask(picture, book, rule, day).by(day)


def laid_til(picture, book, rule, day):
    """The last day to ask the laid rule, to be served on a day or earlier."""
    return _rule_to_ask(picture, book, rule, day).til(day)


def laid_days(picture, book, rule, day, many):
    """The list of the laid rule's served days of so many asked days, from a day on."""
    laid = _rule_to_ask(picture, book, rule, day)
    need_count(many)
    if many > MOST_DAYS:
        raise TooMany("days", MOST_DAYS)
    return [laid.on(day + more) for more in range(many)]


def laid_value(picture, book, formula):
    """The day of a formula in a picture."""
    need_picture(picture, book)
    need_formula(formula)
    need_names(formula, picture[0])
    need_few_pieces([formula])
    return reckoned(formula, picture[0], laid_rules(picture, book, rules_in(formula)))


def laid_holds(picture, book, saying):
    """Whether a saying holds in a picture."""
    need_picture(picture, book)
    need_saying(saying)
    need_names(saying, picture[0])
    need_few_pieces([saying])
    return _holds_in(picture, book, saying)


def is_break(value, saying, book):
    """Whether a value is a picture that breaks a saying beside a book."""
    need_saying(saying)
    need_few_pieces([saying])
    return _breaks(value, saying, book)


def trimmed(picture, saying, book):
    """The picture without each answer that it does not need to break the saying."""
    need_saying(saying)
    if not _breaks(picture, saying, book):
        raise InvalidPicture(picture)
    need_few_pieces([saying])
    days = {name: picture[0][name] for name in sorted(picture[0])}
    left = {rule: list(picture[1][rule]) for rule in sorted(picture[1])}
    for rule in sorted(picture[1]):
        for row in picture[1][rule]:
            fewer = {other: [told for told in left[other] if (other, told) != (rule, row)] for other in left}
            # With fewer places nothing clashes that did not do so ahead of it.
            if not _holds_in((days, fewer), book, saying):
                left = fewer
    return (days, {rule: left[rule] for rule in left if left[rule]})


def laid_rules(picture, book, rules):
    """The dict from rules to their laid rules."""
    spots = places_in(picture, book)
    laid = {}
    for rule in rules:
        under = [spot for other in beneath(book, rule) for spot in spots.get(other, [])]
        laid[rule] = LaidRule(_base_of(rule, book, spots), under)
    return laid


def _rule_to_ask(picture, book, rule, day):
    """The laid rule, once it is sure that it can be asked on the day."""
    need_picture(picture, book)
    need_rule(rule)
    need_day(day)
    return laid_rules(picture, book, [rule])[rule]


def _base_of(rule, book, spots):
    """The base of a rule, told all places."""
    least = low(book, rule)
    if least is not None:
        return least
    bounds = [low(book, other) for other in book.rules] + [high(book, other) for other in book.rules]
    leads = [served - asked for other in spots for asked, served in spots[other]]
    return min([0] + leads + [bound for bound in bounds if bound is not None])


def _holds_in(picture, book, saying):
    """Whether a saying holds in a picture of the book that has days for all its names."""
    return is_so(saying, picture[0], laid_rules(picture, book, rules_in(saying)))


def _breaks(value, saying, book):
    """As is_break, of a saying of however many pieces."""
    if not is_picture(value, book):
        return False
    named = all([name in value[0] for name in names_in(saying)])
    return named and not _holds_in(value, book, saying)
