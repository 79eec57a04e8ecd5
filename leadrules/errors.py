"""The errors of the program, each with what it is about as its attributes."""


class LeadError(ValueError):
    """A value is not of the kind that is asked for."""


class InvalidDay(LeadError):
    def __init__(self, value):
        self.value = value


class InvalidRule(LeadError):
    def __init__(self, value):
        self.value = value


class InvalidName(LeadError):
    def __init__(self, value):
        self.value = value


class InvalidCount(LeadError):
    def __init__(self, value):
        self.value = value


class InvalidFormula(LeadError):
    def __init__(self, value):
        self.value = value


class InvalidSaying(LeadError):
    def __init__(self, value):
        self.value = value


class InvalidDays(LeadError):
    def __init__(self, value):
        self.value = value


class InvalidWorld(LeadError):
    def __init__(self, value):
        self.value = value


class InvalidAsks(LeadError):
    def __init__(self, value):
        self.value = value


class InvalidBounds(LeadError):
    def __init__(self, value):
        self.value = value


class InvalidCommand(LeadError):
    def __init__(self, value):
        self.value = value


class InvalidFormulas(LeadError):
    def __init__(self, value):
        self.value = value


class InvalidLabel(LeadError):
    def __init__(self, value):
        self.value = value


class InvalidLength(LeadError):
    def __init__(self, value):
        self.value = value


class InvalidLines(LeadError):
    def __init__(self, position):
        self.position = position


class InvalidNames(LeadError):
    def __init__(self, value):
        self.value = value


class InvalidPair(LeadError):
    def __init__(self, value):
        self.value = value


class InvalidPart(LeadError):
    def __init__(self, value):
        self.value = value


class InvalidPicture(LeadError):
    def __init__(self, value):
        self.value = value


class InvalidPlace(LeadError):
    def __init__(self, value):
        self.value = value


class InvalidPlan(LeadError):
    def __init__(self, value):
        self.value = value


class InvalidPromise(LeadError):
    def __init__(self, value):
        self.value = value


class InvalidRests(LeadError):
    def __init__(self, value):
        self.value = value


class InvalidRow(LeadError):
    def __init__(self, value):
        self.value = value


class InvalidRows(LeadError):
    def __init__(self, value):
        self.value = value


class InvalidRules(LeadError):
    def __init__(self, value):
        self.value = value


class InvalidServed(LeadError):
    def __init__(self, value):
        self.value = value


class InvalidStands(LeadError):
    def __init__(self, value):
        self.value = value


class InvalidTable(LeadError):
    def __init__(self, value):
        self.value = value


class InvalidTables(LeadError):
    def __init__(self, value):
        self.value = value


class InvalidText(LeadError):
    def __init__(self, line):
        self.line = line


class InvalidThesis(LeadError):
    def __init__(self, value):
        self.value = value


class InvalidThing(LeadError):
    def __init__(self, value):
        self.value = value


class InvalidTree(LeadError):
    def __init__(self, value):
        self.value = value


class KnownRule(LeadError):
    def __init__(self, rule):
        self.rule = rule


class NoTurn(LeadError):
    def __init__(self, value):
        self.value = value


class RingOfParts(LeadError):
    def __init__(self, part):
        self.part = part


class SamePart(LeadError):
    def __init__(self, part):
        self.part = part


class SharedPart(LeadError):
    def __init__(self, part):
        self.part = part


class MissingError(LookupError):
    """Something that is looked up is not there."""


class MissingRule(MissingError):
    def __init__(self, rule):
        self.rule = rule


class MissingName(MissingError):
    def __init__(self, name):
        self.name = name


class MissingPart(MissingError):
    def __init__(self, part):
        self.part = part


class MissingPromise(MissingError):
    def __init__(self, promise):
        self.promise = promise


class MissingRow(MissingError):
    def __init__(self, row):
        self.row = row


class UnknownLabel(MissingError):
    def __init__(self, label):
        self.label = label


class StateError(RuntimeError):
    """What is there does not admit of what is asked."""


class BrokenBook(StateError):
    """No rules keep the book."""


class CommandFailed(StateError):
    def __init__(self, position):
        self.position = position


class LabelTaken(StateError):
    def __init__(self, label):
        self.label = label


class LastPart(StateError):
    def __init__(self, part):
        self.part = part


class NothingToRedo(StateError):
    """No deed was taken back."""


class NothingToUndo(StateError):
    """No deed can be taken back."""


class PromiseThere(StateError):
    def __init__(self, promise):
        self.promise = promise


class RowThere(StateError):
    def __init__(self, row):
        self.row = row


class LimitError(ArithmeticError):
    """A limit of the program is passed."""


class TooMany(LimitError):
    def __init__(self, what, limit):
        self.what = what
        self.limit = limit
