"""Watches: a book, the sayings that are watched beside it, and their states; and what deeds make of them."""

from leadrules.answers import greatest_answer, least_answer
from leadrules.errors import LabelTaken, PromiseThere, RowThere, TooMany, UnknownLabel
from leadrules.formulas import need_names
from leadrules.pictures import is_kept
from leadrules.reasons import first_reason
from leadrules.slack import least_slack
from leadrules.sure import sureness
from leadrules.texts import words_of

MOST_LABELS = 12


class Watch:
    """A book beside which sayings are watched: it never changes.

    held: the Book; sayings: the dict from the labels to their sayings; states: to their states.
    """

    def __init__(self, held, sayings, states):
        self.held = held
        self.sayings = sayings
        self.states = states

    def beside(self, book):
        """The same labels and sayings beside another book."""
        return Watch(book, self.sayings, {label: state_of(self.sayings[label], book) for label in self.sayings})

    def saying_of(self, label):
        """The saying that is watched under a label."""
        if not isinstance(label, str) or label not in self.sayings:
            raise UnknownLabel(label)
        return self.sayings[label]


def state_of(saying, book):
    """The state of a saying beside a book."""
    return sureness(saying, book, {}) if is_kept(book) else "broken"


def told_states(states):
    """The labels of a dict with their states, as an answer tells them."""
    return _listed([f"{label} {states[label]}" for label in sorted(states)])


def changes(old, new):
    """The answer to a deed that made a new Watch of an old one."""
    return told_states({label: state for label, state in new.states.items() if old.states.get(label) != state})


def after_deed(watch, order):
    """The Watch behind a deed."""
    word, thing = order[:2]
    if word == "watch":
        return _watching(watch, thing, order[2])
    if word == "forget":
        watch.saying_of(thing)
        return Watch(watch.held, _without(watch.sayings, thing), _without(watch.states, thing))
    return watch.beside(_book_after(watch.held, word, thing))


def answer_to(watch, order):
    """The answer to a command that is no deed, and takes none back."""
    word = order[0]
    book = watch.held
    if word == "states":
        return told_states(watch.states)
    if word in ("rows", "promises"):
        return str(len(book.log if word == "rows" else book.promises))
    if word in ("state", "saying", "why"):
        saying = watch.saying_of(order[1])
        if word == "saying":
            return words_of(saying)
        state = watch.states[order[1]]
        return state if word == "state" else _told_reason(saying, state, book)
    if word == "ask":
        return state_of(order[1], book)
    return _told_number(word, order[1:], book)


def _watching(watch, label, saying):
    """The Watch with a saying more."""
    if label in watch.sayings:
        raise LabelTaken(label)
    state = state_of(saying, watch.held)
    if len(watch.sayings) == MOST_LABELS:
        raise TooMany("labels", MOST_LABELS)
    return Watch(watch.held, _with(watch.sayings, label, saying), _with(watch.states, label, state))


def _book_after(book, word, thing):
    """The Book behind a deed with a row or a promise."""
    if word == "saw":
        if thing in book.log:
            raise RowThere(thing)
        return book.with_row(thing)
    if word == "strike":
        return book.without_row(thing)
    if word == "promise":
        if thing in book.promises:
            raise PromiseThere(thing)
        return book.with_promise(thing)
    return book.without_promise(thing)


def _told_reason(saying, state, book):
    """The rows of the first reason why a saying is sure, or never so."""
    if state not in ("sure", "never"):
        return state
    rows = first_reason(saying if state == "sure" else ("not", saying), book)
    return _listed([f"{rule} {asked} {served}" for rule, asked, served in rows])


def _told_number(word, formulas, book):
    """The least or the greatest answer of a formula, or the slack of two."""
    if word != "slack":
        need_names(formulas[0], {})
    if not is_kept(book):
        return "broken"
    if word == "slack":
        number = least_slack(formulas[0], formulas[1], book)
    elif word == "least":
        number = least_answer(formulas[0], book, {})
    else:
        number = greatest_answer(formulas[0], book, {})
    return "none" if number is None else str(number)


def _listed(told):
    """Things with a comma and a blank between them."""
    return ", ".join(told) if told else "-"


def _with(table, key, value):
    """A dict with a key more."""
    return {**table, key: value}


def _without(table, key):
    """A dict without one of its keys."""
    return {other: table[other] for other in table if other != key}
