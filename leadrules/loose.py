"""Two stands: pictures that go on, step by step, and so show that two formulas have no slack."""

from leadrules.beneath import above, high, low, torn
from leadrules.common import need_count, parts_of
from leadrules.errors import InvalidStands
from leadrules.farthest import Farthest, need_few_for_slack, need_formulas
from leadrules.formulas import need_formula
from leadrules.pictures import has_form, need_kept


def loose(first, second, book):
    """A loose paper of two formulas; None if there is a slack."""
    need_formulas([first, second])
    need_kept(book)
    need_few_for_slack(first, second)
    found = Farthest(first, second, book)
    return None if found.slack is not None else (found.picture(), found.picture_behind())


def is_loose(value, first, second, book):
    """Whether a value is a loose paper of two formulas beside a book."""
    need_formulas([first, second])
    need_few_for_slack(first, second)
    if not is_steady(value, book):
        return False
    track, other = _read(value, book, first), _read(value, book, second)
    return track is not None and other is not None and track[1] > other[1]


def stand_of(stands, many):
    """The stand of a count: the picture of all days for it."""
    _need_stands(stands)
    need_count(many)
    names, answers = _tracks(stands)
    days = {name: _day_for(track, many) for name, track in names.items()}
    return (days, {rule: [(_day_for(asked, many), _day_for(served, many)) for asked, served in told]
                   for rule, told in answers.items()})


def tracks_of(stands):
    """The tracks of two stands: those of the names, and those of the answers of each rule."""
    _need_stands(stands)
    return _tracks(stands)


def is_steady(value, book):
    """Whether a value is two stands that are steady beside a book."""
    if not _are_stands(value) or torn(book):
        return False
    known = _known_tracks(value, book)
    return all([_keeps_lead(told, low(book, rule), high(book, rule)) for rule, told in known.items()]
               + [_keep_order(told, known[other]) for rule, told in known.items()
                  for other in above(book, rule) if other in known])


def reading(stands, book, formula):
    """The reading of a formula at two stands beside a book: a track, or None."""
    _need_stands(stands)
    need_formula(formula)
    return _read(stands, book, formula)


def _are_stands(value):
    """Whether a value is two stands."""
    if not isinstance(value, tuple) or len(value) != 2 or not has_form(value[0]) or not has_form(value[1]):
        return False
    near, behind = value
    if sorted(near[0]) != sorted(behind[0]) or sorted(near[1]) != sorted(behind[1]):
        return False
    return all([_go_no_nearer(near[1][rule], behind[1][rule]) for rule in near[1]])


def _go_no_nearer(rows, others):
    """Whether there are as many rows as others, their asked days no nearer to one another in the others."""
    if len(rows) != len(others):
        return False
    return all([rows[place + 1][0] - rows[place][0] <= others[place + 1][0] - others[place][0]
                for place in range(len(rows) - 1)])


def _need_stands(value):
    """Raise InvalidStands unless the value is two stands."""
    if not _are_stands(value):
        raise InvalidStands(value)


def _tracks(stands):
    """As tracks_of, of what is known to be two stands."""
    near, behind = stands
    names = {name: _track(near[0][name], behind[0][name]) for name in sorted(near[0])}
    answers = {}
    for rule in sorted(near[1]):
        answers[rule] = [(_track(row[0], other[0]), _track(row[1], other[1]))
                         for row, other in zip(near[1][rule], behind[1][rule])]
    return (names, answers)


def _known_tracks(stands, book):
    """The tracks of the answers of each rule, the log's rows added as days that stay."""
    known = _tracks(stands)[1]
    for rule, asked, served in book.log:
        known[rule] = known.get(rule, []) + [((asked, 0), (served, 0))]
    return known


def _track(day, other):
    """The track from a day to another one."""
    return (day, other - day)


def _day_for(track, many):
    """The day of a track for a count."""
    return track[0] + many * track[1]


def _is_never_later(track, other):
    """Whether a track is never later than another one."""
    return track[0] <= other[0] and track[1] <= other[1]


def _is_ahead(track, other):
    """Whether a track is ahead of another one."""
    return _is_never_later(track, _moved(other, -1))


def _moved(track, many):
    """The track so many days later."""
    return (track[0] + many, track[1])


def _keeps_lead(told, least, most):
    """Whether all answers of a rule keep its low and its high."""
    for asked, served in told:
        if least is not None and not _is_never_later(_moved(asked, least), served):
            return False
        if most is not None and not _is_never_later(served, _moved(asked, most)):
            return False
    return True


def _keep_order(told, others):
    """Whether the answers of a rule are in order with those of a rule that it is beneath."""
    for asked, served in told:
        for other_asked, other_served in others:
            both = _is_never_later(asked, other_asked) and _is_never_later(served, other_served)
            if not both and not _is_ahead(other_asked, asked):
                return False
    return True


def _read(stands, book, formula):
    """As reading, of what is known to be two stands."""
    return _reading_of(formula, _tracks(stands)[0], _known_tracks(stands, book))


def _reading_of(formula, names, known):
    """The reading of a formula, told the tracks of the names and of all answers."""
    word = formula[0]
    if word == "day":
        return names.get(formula[1])
    if word == "num":
        return (formula[1], 0)
    parts = [_reading_of(part, names, known) for part in parts_of(formula)]
    if None in parts:
        return None
    if word == "add":
        return _moved(parts[0], formula[1])
    if word in ("late", "soon"):
        return _end_of(word, parts[0], parts[1])
    return min(_served_or_asked(word, parts[0], known.get(formula[1], [])), default=None)


def _end_of(word, track, other):
    """The later, or the earlier, one of two tracks; None if neither is never later than the other."""
    first, second = (track, other) if word == "soon" else (other, track)
    if _is_never_later(first, second):
        return track
    return other if _is_never_later(second, first) else None


def _served_or_asked(word, track, told):
    """The tracks that the answers of a rule tell for an on, by or til of a track."""
    if word == "on":
        return [served for asked, served in told if asked == track]
    if word == "by":
        # The answer a day earlier shows that there is no earlier day to ask.
        short = {asked: True for asked, served in told if _is_ahead(served, track)}
        return [asked for asked, served in told if _is_never_later(track, served) and _moved(asked, -1) in short]
    past = {asked: True for asked, served in told if _is_ahead(track, served)}
    return [asked for asked, served in told if _is_never_later(served, track) and _moved(asked, 1) in past]
