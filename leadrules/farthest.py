"""How far a formula can be behind another one: the days that show the most, or that there is no most."""

from leadrules.common import need_few_pieces
from leadrules.formulas import need_formula
from leadrules.problems import Problem
from leadrules.searches import Search, begun, keeps_one


class Farthest:
    """Of a first and a second formula beside a book that some rules keep: the slack, and days that show it.

    slack: None if there is none; found: days for the day numbers, as far from one another as the slack tells;
    steps: where there is no slack, how many days later each day comes with each step to others, farther apart.
    """

    def __init__(self, first, second, book):
        self.problem = Problem(("le", first, second), book)
        self.first = self.problem.listed.number(first)
        self.second = self.problem.listed.number(second)
        self.slack, self.found, self.steps = None, None, None
        self._go_apart()

    def picture(self):
        """The picture of the days."""
        return self.problem.picture(self.found)

    def picture_behind(self):
        """The picture a step farther on."""
        return self.problem.picture([day + step for day, step in zip(self.found, self.steps)])

    def _go_apart(self):
        """Look for days that lie farther and farther from one another, till there are none, or there is no most."""
        splits = self.problem.splits()
        closure = self._days_beyond([])
        while closure is not None:
            _choose_ways(closure, splits, self.found)
            self.slack = closure.most(self.first, self.second)
            if self.slack is None:
                self.steps = self._steps_apart(closure)
                closure = None
            else:
                closure.tell([(self.second, self.first, -self.slack)], 0)
                self.found = closure.least_days()
                closure = self._days_beyond([(self.second, self.first, -self.slack - 1)])

    def _days_beyond(self, bounds):
        """Look for days that keep these bounds, too: the closure of what is in force for them; None without any."""
        closure, _ = begun(self.problem)
        if closure.tell(bounds, 0) is not None:
            return None
        search = Search(self.problem)
        if search.tree_of(closure, []) is not None:
            return None
        self.found = search.found
        return search.closure

    def _steps_apart(self, closure):
        """Steps by which all bounds stay kept, the first formula going away from the second one."""
        days = range(self.problem.listed.many())
        # A day that the first formula's is only so far behind of must go along with it.
        along = [0 if closure.most(self.first, day) is None else 1 for day in days]
        return [step - along[0] for step in along]


def _choose_ways(closure, splits, days):
    """Tell a closure of each split a way that some days, which keep one of each, keep."""
    for _, ways in splits:
        closure.tell([bounds for bounds in ways if keeps_one([bounds], days)][0], 0)


def need_formulas(formulas):
    """Raise InvalidFormula of the first one of several parameters that is no formula."""
    for formula in formulas:
        need_formula(formula)


def need_few_for_slack(first, second):
    """Raise TooMany if a saying of two formulas and a number of days between them has more than 60 pieces."""
    need_few_pieces([slack_saying_of(first, second, 0)])


def slack_saying_of(first, second, number):
    """The saying that the first formula is never later than the second one and so many days."""
    return ("le", first, ("add", number, second))
