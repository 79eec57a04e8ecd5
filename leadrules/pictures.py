"""Pictures: days and answers that no book's rows and promises are against."""

from math import gcd

from leadrules.basics import is_days, is_rule
from leadrules.beneath import above, high, low, torn
from leadrules.common import all_pieces, is_list, is_row_of_days, names_in, need_days
from leadrules.errors import BrokenBook, InvalidPicture, MissingRule
from leadrules.formulas import need_formula, need_known, reckoned
from leadrules.sayings import need_saying
from leadrules.tables import need_world


def is_picture(value, book):
    """Whether a value is a picture of a book."""
    return has_form(value) and clash_of(value, book) is None


def need_picture(value, book):
    """Raise InvalidPicture unless the value is a picture of a book."""
    if not is_picture(value, book):
        raise InvalidPicture(value)


def has_form(value):
    """Whether a value has the form of a picture, whatever a book tells."""
    if not isinstance(value, tuple) or len(value) != 2 or not is_days(value[0]):
        return False
    return isinstance(value[1], dict) and all([is_rule(rule) and _are_answers(answers)
                                               for rule, answers in value[1].items()])


def clash(value, book):
    """The first way in which what has the form of a picture clashes with a book; None without one."""
    if not has_form(value):
        raise InvalidPicture(value)
    return clash_of(value, book)


def clash_of(picture, book):
    """As clash, of what is known to have the form of a picture."""
    torn_rules = torn(book)
    if torn_rules:
        return ("torn", torn_rules[0])
    spots = places_in(picture, book)
    against = _first_against_lead(spots, book)
    return _first_against_pair(spots, book) if against is None else against


def is_kept(book):
    """Whether some rules keep a book."""
    return clash_of(({}, {}), book) is None


def need_kept(book):
    """Raise BrokenBook if no rules keep a book."""
    if not is_kept(book):
        raise BrokenBook()


def places(picture, book):
    """The dict from the rules that have any to the sorted list of their places."""
    need_picture(picture, book)
    return places_in(picture, book)


def places_in(picture, book):
    """As places, of what is known to have the form of a picture."""
    answers = picture[1]
    spots = {}
    for rule in sorted(set(list(answers) + book.rules)):
        told = sorted(set(list(answers.get(rule, [])) + book.rows_of(rule)))
        if told:
            spots[rule] = told
    return spots


def joined_pictures(picture, other_picture, book):
    """The picture with the days and answers of both; None if there is none."""
    need_picture(picture, book)
    need_picture(other_picture, book)
    days = dict(picture[0])
    for name, day in other_picture[0].items():
        if days.setdefault(name, day) != day:
            return None
    answers = {}
    for rule in sorted(set(list(picture[1]) + list(other_picture[1]))):
        told = sorted(set(list(picture[1].get(rule, [])) + list(other_picture[1].get(rule, []))))
        if told:
            answers[rule] = told
    both = (with_sorted_keys(days), answers)
    return both if is_picture(both, book) else None


def with_sorted_keys(table):
    """A new dict with the same keys and values, the keys sorted."""
    return {key: table[key] for key in sorted(table)}


def asks_of(world, days, formula):
    """What the world is asked while the formula is reckoned in it."""
    need_world(world)
    need_days(days)
    need_formula(formula)
    need_known(formula, days, world)
    return asked_in(world, days, formula)


def picture_of(world, days, saying):
    """The picture of a world, some days and a saying."""
    need_world(world)
    need_days(days)
    need_saying(saying)
    need_known(saying, days, world)
    return ({name: days[name] for name in names_in(saying)}, asked_in(world, days, saying))


def keeps(world, book):
    """Whether a world keeps a book."""
    need_world(world)
    _need_tables(world, book.rules)
    rows_kept = all([world[rule].on(asked) == served for rule, asked, served in book.log])
    return rows_kept and all([_keeps_promise(world, promise) for promise in book.promises])


def agrees(world, picture, book):
    """Whether a world's Tables serve all answers of a picture as told."""
    need_world(world)
    need_picture(picture, book)
    answers = picture[1]
    _need_tables(world, sorted(answers))
    return all([world[rule].on(asked) == served for rule in answers for asked, served in answers[rule]])


def _are_answers(value):
    """Whether a value is a list of (asked, served), the asked days rising."""
    if not is_list(value) or not all([is_row_of_days(row) for row in value]):
        return False
    return all([value[place][0] < value[place + 1][0] for place in range(len(value) - 1)])


def _first_against_lead(spots, book):
    """The clash of the first place that is against a low or a high; None without one."""
    for rule in spots:
        least, most = low(book, rule), high(book, rule)
        for asked, served in spots[rule]:
            too_early = least is not None and served < asked + least
            too_late = most is not None and served > asked + most
            if too_early or too_late:
                return ("lead", rule, asked, served)
    return None


def _first_against_pair(spots, book):
    """The clash of the first two places that are against each other; None without such."""
    for rule in spots:
        over = [other for other in above(book, rule) if other in spots]
        for asked, served in spots[rule]:
            for other in over:
                for other_asked, other_served in spots[other]:
                    if asked <= other_asked and served > other_served:
                        return ("pair", rule, asked, served, other, other_asked, other_served)
    return None


def asked_in(world, days, told):
    """What the world is asked while what is told is reckoned: sorted, none twice."""
    asked = {}
    for piece in all_pieces(told):
        if piece[0] in ("on", "by", "til"):
            known = asked.setdefault(piece[1], {})
            for day in _days_asked(world, days, piece):
                known[day] = True
    return {rule: [(day, world[rule].on(day)) for day in sorted(asked[rule])] for rule in sorted(asked)}


def _days_asked(world, days, piece):
    """The days on which the rule of an on, by or til is asked for it."""
    if piece[0] == "on":
        return [reckoned(piece[2], days, world)]
    day = reckoned(piece, days, world)
    # The neighbouring day shows that a by is the first one, or a til the last one.
    return [day - 1, day] if piece[0] == "by" else [day, day + 1]


def _need_tables(world, rules):
    """Raise MissingRule of the first one of sorted rules that a world lacks."""
    for rule in rules:
        if rule not in world:
            raise MissingRule(rule)


def _keeps_promise(world, promise):
    """Whether a world's Tables keep a promise."""
    table = world[promise[1]]
    if promise[0] == "quick":
        return _is_never_above(table, world[promise[2]])
    least, most = table.leads()
    return (promise[2] is None or promise[2] <= least) and (promise[3] is None or most <= promise[3])


def _is_never_above(table, other):
    """Whether a Table is never above another one, however long their common length is."""
    # Two days of the tables fall together at some time just if they have the same rest by what both lengths share.
    shared = gcd(table.length, other.length)
    most = [max(_leads_of_rest(table, rest, shared)) for rest in range(shared)]
    least = [min(_leads_of_rest(other, rest, shared)) for rest in range(shared)]
    return all([most[rest] <= least[rest] for rest in range(shared)])


def _leads_of_rest(table, rest, shared):
    """The leads of a Table on the days that leave a rest."""
    return [table.on(asked) - asked for asked in range(rest, table.length, shared)]
