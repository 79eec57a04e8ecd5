"""Sayings beside a book and calendars: known trees, known breaks, and what is sure."""

from leadrules.calendars import need_asked_beside, need_calendars, need_short, need_unknown
from leadrules.common import names_in, need_count, need_day, need_days, need_few_pieces, need_rule, rules_in
from leadrules.errors import InvalidPicture
from leadrules.formulas import need_formula, need_names, reckoned
from leadrules.knownplaces import is_right_known
from leadrules.knownproblems import KnownProblem
from leadrules.knownsearches import known_out
from leadrules.laid import laid_rules
from leadrules.pictures import asked_in, is_picture, need_kept, need_picture
from leadrules.sayings import is_so, need_saying
from leadrules.sure import with_days


def known_value(picture, book, calendars, formula):
    """The day of a formula in a picture, the rules of the calendars being their tables."""
    need_picture(picture, book)
    need_calendars(calendars)
    need_formula(formula)
    _need_laid(picture, book, calendars, formula)
    return reckoned(formula, picture[0], _rules_of(picture, book, calendars, formula))


def known_holds(picture, book, calendars, saying):
    """Whether a saying holds in a picture, the rules of the calendars being their tables."""
    need_picture(picture, book)
    need_calendars(calendars)
    need_saying(saying)
    _need_laid(picture, book, calendars, saying)
    return is_so(saying, picture[0], _rules_of(picture, book, calendars, saying))


def known_verdict(saying, book, calendars):
    """Whether a saying holds for all beside a book and calendars ("all"), or breaks ("breaks")."""
    return "all" if known_broken(saying, book, calendars) is None else "breaks"


def known_tree(saying, book, calendars):
    """A known tree; None if the saying breaks."""
    need_asked_beside(saying, book, calendars)
    return known_out(saying, book, calendars)[0]


def is_known_tree(value, saying, book, calendars):
    """Whether a value is a known tree."""
    need_asked_beside(saying, book, calendars)
    return is_right_known(value, KnownProblem(saying, book, calendars))


def known_broken(saying, book, calendars):
    """A known break; None if the saying holds for all."""
    need_asked_beside(saying, book, calendars)
    return known_out(saying, book, calendars)[1]


def is_known_break(value, saying, book, calendars):
    """Whether a value is a known break."""
    need_asked_beside(saying, book, calendars)
    return _breaks(value, saying, book, calendars)


def known_sureness(saying, book, calendars, days):
    """Whether a saying is "sure", "never" or "maybe" beside a book, calendars and days."""
    need_saying(saying)
    need_calendars(calendars)
    need_days(days)
    need_unknown(calendars, book)
    need_kept(book)
    need_short(calendars)
    need_few_pieces([("not", saying)])
    told = with_days(saying, days)
    if known_out(told, book, calendars)[1] is None:
        return "sure"
    return "never" if known_out(("not", told), book, calendars)[1] is None else "maybe"


def told_out(picture, saying, book, calendars):
    """A known break with all that is asked of each rule in the saying, of those of the calendars, too."""
    need_saying(saying)
    need_calendars(calendars)
    need_unknown(calendars, book)
    if not _breaks(picture, saying, book, calendars):
        raise InvalidPicture(picture)
    need_short(calendars)
    need_few_pieces([saying])
    days = {name: picture[0][name] for name in sorted(picture[0])}
    return (days, asked_in(_rules_of(picture, book, calendars, saying), days, saying))


def period_rows(rule, table, day, many):
    """The rows of a rule that is asked on many days from a day on, and served as a table tells."""
    need_rule(rule)
    need_day(day)
    need_count(many)
    return [(rule, day + more, table.on(day + more)) for more in range(many)]


def _need_laid(picture, book, calendars, told):
    """Raise an error unless what is told can be reckoned in a picture beside calendars."""
    need_unknown(calendars, book)
    if _has_known(picture, calendars):
        raise InvalidPicture(picture)
    need_names(told, picture[0])
    need_short(calendars)
    need_few_pieces([told])


def _has_known(picture, calendars):
    """Whether a rule of calendars is a key of a picture's answers."""
    return any([rule in calendars for rule in picture[1]])


def _rules_of(picture, book, calendars, told):
    """The dict from the rules in what is told to their tables, or to what they are laid to."""
    rules = laid_rules(picture, book, [rule for rule in rules_in(told) if rule not in calendars])
    for rule in calendars:
        rules[rule] = calendars[rule]
    return rules


def _breaks(value, saying, book, calendars):
    """Whether a value is a known break, of a saying of however many pieces."""
    if not is_picture(value, book) or _has_known(value, calendars):
        return False
    if not all([name in value[0] for name in names_in(saying)]):
        return False
    return not is_so(saying, value[0], _rules_of(value, book, calendars, saying))
