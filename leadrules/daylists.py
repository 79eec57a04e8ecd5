"""Day lists: the formulas of a saying, numbered; and the places that they and a book have."""

from leadrules.common import need_few_pieces, parts_of, rebuilt
from leadrules.sayings import need_saying


class DayList:
    """The formulas of a saying by day numbers, behind them the helpers of its by and til.

    own: how many of them are day 0 or the saying's own; helpers: from by and til to their two helpers.
    """

    def __init__(self, saying):
        # A formula is known by its word and the numbers of its parts, as keys must not be nested deep.
        self._numbers = {("num", 0): 0}
        self._formulas = [("num", 0)]
        self._parts = [()]
        self._list_saying(saying)
        self.own = len(self._formulas)
        self.helpers = {number: self._helpers_of(number) for number in range(self.own)
                        if self._formulas[number][0] in ("by", "til")}

    def formulas(self):
        """The list of all formulas, in the sequence of their numbers."""
        return list(self._formulas)

    def many(self):
        """How many day numbers there are."""
        return len(self._formulas)

    def formula(self, number):
        """The formula of a day number."""
        return self._formulas[number]

    def parts(self, number):
        """The tuple of the day numbers of the parts of one of the saying's own formulas."""
        return self._parts[number]

    def number(self, formula):
        """The day number of a formula, which is listed if it was not."""
        numbers = tuple([self.number(part) for part in parts_of(formula)])
        key = rebuilt(formula, numbers)
        if key not in self._numbers:
            self._list(key, formula, numbers)
        return self._numbers[key]

    def _list(self, key, formula, numbers):
        """List a formula behind the others."""
        self._numbers[key] = len(self._formulas)
        self._formulas.append(formula)
        self._parts.append(numbers)

    def _list_saying(self, saying):
        """List all formulas of a saying, from the left."""
        for part in parts_of(saying):
            if saying[0] == "le":
                self.number(part)
            else:
                self._list_saying(part)

    def _helpers_of(self, number):
        """The tuple of the numbers of both helpers of a by or til, which are listed if they were not."""
        formula = self._formulas[number]
        step = -1 if formula[0] == "by" else 1
        # Within the second helper stands an add that has a number only if the saying has it, too.
        within = self._numbers.get(("add", step, number), ("add", step, number))
        first = self._helper(formula[1], number, formula)
        return (first, self._helper(formula[1], within, ("add", step, formula)))

    def _helper(self, rule, within, formula):
        """The number of what a rule serves on a formula's day."""
        key = ("on", rule, within)
        if key not in self._numbers:
            self._list(key, ("on", rule, formula), ())
        return self._numbers[key]


def days_of(saying):
    """The day list of a saying."""
    need_saying(saying)
    need_few_pieces([saying])
    return DayList(saying).formulas()


def places_of(saying, book):
    """The places of a saying and a book, in their sequence."""
    need_saying(saying)
    need_few_pieces([saying])
    return own_places(DayList(saying)) + row_places(book)


def own_places(listed):
    """The places of a day list, those of the log not among them."""
    spots = {}
    for number in range(listed.own):
        formula = listed.formula(number)
        if formula[0] == "on":
            spots[(formula[1], listed.parts(number)[0], 0, number, 0)] = True
    for number, (first, second) in listed.helpers.items():
        word, rule, _ = listed.formula(number)
        spots[(rule, number, 0, first, 0)] = True
        spots[(rule, number, -1 if word == "by" else 1, second, 0)] = True
    return list(spots)


def row_places(book):
    """The places of a book's log."""
    return [(rule, 0, asked, 0, served) for rule, asked, served in book.log]
