"""A desk as a plain list of deeds, all done from the beginning for each answer."""

from leadrules.answers import greatest_answer, least_answer
from leadrules.books import Book
from leadrules.reasons import first_reason
from leadrules.slack import least_slack
from leadrules.sure import sureness
from tests import slow, slowtexts


def told_in(words):
    """The formula or saying of words."""
    return (slowtexts.parsed(words, "s") or slowtexts.parsed(words, "f"))[0]


def bound(word):
    return None if word == "-" else int(word)


class SlowDesk:
    """Does commands that do not fail; a deed that would fail is told by error_of."""

    def __init__(self, rows, promises):
        self.first = (list(rows), list(promises))
        self.deeds, self.undone = [], []

    def things(self, deeds):
        """The rows, promises and sayings behind some deeds."""
        rows, promises, sayings = list(self.first[0]), list(self.first[1]), {}
        for line in deeds:
            word, *more = line.split(" ")
            if word in ("saw", "strike"):
                row = (more[0], int(more[1]), int(more[2]))
                (rows.append if word == "saw" else rows.remove)(row)
            elif word in ("promise", "release"):
                promise = ("lead", more[1], bound(more[2]), bound(more[3])) if more[0] == "lead" else tuple(more)
                (promises.append if word == "promise" else promises.remove)(promise)
            elif word == "watch":
                sayings[more[0]] = told_in(more[1:])
            else:
                del sayings[more[0]]
        return rows, promises, sayings

    def state(self, saying, rows, promises):
        if slow.clash({}, rows, promises) is not None:
            return "broken"
        return sureness(saying, Book(rows, promises), {})

    def states(self, deeds):
        rows, promises, sayings = self.things(deeds)
        return {label: self.state(sayings[label], rows, promises) for label in sorted(sayings)}

    def listed(self, told):
        return ", ".join(told) or "-"

    def error_of(self, command):
        """The name of the error that is due for a command by what is there; None if none is."""
        word, *more = command.split(" ")
        rows, promises, sayings = self.things(self.deeds)
        if word in ("forget", "state", "saying", "why") and more[0] not in sayings:
            return "UnknownLabel"
        if word == "watch" and more[0] in sayings:
            return "LabelTaken"
        if word in ("saw", "strike"):
            there = (more[0], int(more[1]), int(more[2])) in rows
            return {("saw", True): "RowThere", ("strike", False): "MissingRow"}.get((word, there))
        if word in ("promise", "release"):
            promise = ("lead", more[1], bound(more[2]), bound(more[3])) if more[0] == "lead" else tuple(more)
            return {("promise", True): "PromiseThere", ("release", False): "MissingPromise"}.get((word, promise in promises))
        if word in ("undo", "redo"):
            left = self.deeds if word == "undo" else self.undone
            return None if left else "NothingTo" + word.capitalize()
        return None

    def do(self, command):
        word, *more = command.split(" ")
        if word in ("saw", "strike", "promise", "release", "watch", "forget"):
            old, new = self.states(self.deeds), self.states(self.deeds + [command])
            self.deeds, self.undone = self.deeds + [command], []
            return self.listed([f"{label} {state}" for label, state in new.items() if old.get(label) != state])
        if word == "undo":
            self.undone = self.undone + self.deeds[-1:]
            self.deeds = self.deeds[:-1]
            return self.undone[-1]
        if word == "redo":
            self.deeds = self.deeds + self.undone[-1:]
            self.undone = self.undone[:-1]
            return self.deeds[-1]
        return self.answer(word, more)

    def answer(self, word, more):
        rows, promises, sayings = self.things(self.deeds)
        book, broken = Book(rows, promises), slow.clash({}, rows, promises) is not None
        states = self.states(self.deeds)
        if word in ("rows", "promises"):
            return str(len(rows if word == "rows" else promises))
        if word == "states":
            return self.listed([f"{label} {state}" for label, state in states.items()])
        if word == "state":
            return states[more[0]]
        if word == "saying":
            return slowtexts.words_of(sayings[more[0]])
        if word == "why":
            saying, state = sayings[more[0]], states[more[0]]
            if state in ("maybe", "broken"):
                return state
            reason = first_reason(saying if state == "sure" else ("not", saying), book)
            return self.listed([" ".join(map(str, row)) for row in reason])
        if word == "ask":
            return self.state(told_in(more), rows, promises)
        if broken:
            return "broken"
        if word == "slack":
            first, left = slowtexts.parsed(more, "f")
            found = least_slack(first, told_in(left), book)
        else:
            found = (least_answer if word == "least" else greatest_answer)(told_in(more), book, {})
        return "none" if found is None else str(found)
