"""A desk: a book and watched sayings, which commands change, and which can be taken back."""

from leadrules.commands import is_deed
from leadrules.common import is_list
from leadrules.errors import (CommandFailed, InvalidCommand, InvalidLines, LeadError, LimitError, MissingError,
                              NothingToRedo, NothingToUndo, StateError, TooMany)
from leadrules.orders import DEEDS, order_of
from leadrules.watches import Watch, after_deed, answer_to, changes

MOST_DEEDS = 300


class Desk:
    """A Book and the sayings that are watched beside it."""

    def __init__(self, book):
        # All that a desk holds stands in one tuple that is never changed, so that it can be kept and put back: the
        # Watch, the deeds as (line, Watch ahead of it), and those taken back as (line, Watch behind it).
        self._now = (Watch(book, {}, {}), (), ())

    @property
    def book(self):
        """The Book as it is now."""
        return self._now[0].held

    @property
    def labels(self):
        """The sorted list of the labels that are watched."""
        return sorted(self._now[0].sayings)

    def __len__(self):
        return len(self._now[1])

    def __contains__(self, label):
        return isinstance(label, str) and label in self._now[0].sayings

    def __call__(self, command):
        return self.do(command)

    def saying(self, label):
        """The saying that is watched under a label."""
        return self._now[0].saying_of(label)

    def do(self, command):
        """Do a command; its answer."""
        order = order_of(command)
        if order is None:
            raise InvalidCommand(command)
        if order[0] in DEEDS:
            return self._do_deed(command, order)
        if order[0] == "undo":
            return self._take_back()
        if order[0] == "redo":
            return self._do_again()
        return answer_to(self._now[0], order)

    def do_all(self, *commands):
        """Do some commands; the list of their answers. If one fails, none has an effect."""
        now = self._now
        answers = []
        for position, command in enumerate(commands):
            try:
                answers.append(self.do(command))
            except (LeadError, MissingError, StateError, LimitError) as error:
                self._now = now
                raise CommandFailed(position) from error
        return answers

    def attempt(self, *commands):
        """As do_all, and all is as before."""
        now = self._now
        answers = self.do_all(*commands)
        self._now = now
        return answers

    def lines(self):
        """The list of the lines of the deeds that are not taken back."""
        return [line for line, _ in self._now[1]]

    def copy(self):
        """A desk that goes on by itself."""
        other = Desk(self.book)
        other._now = self._now
        return other

    @classmethod
    def again(cls, book, lines):
        """A desk with a book that has done some deeds."""
        if not is_list(lines):
            raise InvalidLines(None)
        for position, line in enumerate(lines):
            if not is_deed(line):
                raise InvalidLines(position)
        desk = cls(book)
        desk.do_all(*lines)
        return desk

    def _do_deed(self, line, order):
        """Do a deed; the changes of states."""
        watch, deeds, _ = self._now
        new = after_deed(watch, order)
        _need_room(deeds)
        self._now = (new, (*deeds, (line, watch)), ())
        return changes(watch, new)

    def _take_back(self):
        """Take back the last deed; its line."""
        watch, deeds, undone = self._now
        if not deeds:
            raise NothingToUndo()
        line, old = deeds[-1]
        self._now = (old, deeds[:-1], (*undone, (line, watch)))
        return line

    def _do_again(self):
        """Do the deed again that was taken back last; its line."""
        watch, deeds, undone = self._now
        if not undone:
            raise NothingToRedo()
        _need_room(deeds)
        line, new = undone[-1]
        self._now = (new, (*deeds, (line, watch)), undone[:-1])
        return line


class Trial:
    """A block behind which all of a desk is as it was ahead of it."""

    def __init__(self, desk):
        self._desk = desk
        self._ahead = None

    def __enter__(self):
        self._ahead = self._desk._now
        return self._desk

    def __exit__(self, kind, value, trace):
        self._desk._now = self._ahead


def tried(desk, action):
    """What a function returns for a desk, which is as before behind it."""
    with Trial(desk) as held:
        return action(held)


def _need_room(deeds):
    """Raise TooMany if a deed more would be one too many."""
    if len(deeds) == MOST_DEEDS:
        raise TooMany("deeds", MOST_DEEDS)
