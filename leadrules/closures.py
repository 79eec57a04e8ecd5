"""All bounds that follow from some, kept as one by one they come in force."""


class Closure:
    """How many days each day is behind each other one at most, and by which bounds.

    Each bound that is told is kept with a mark, whatever this is, and the mark is told with it in a ring.
    """

    def __init__(self, many):
        # None where the one day can be behind the other one by any number of days.
        self._most = [[None] * many for day in range(many)]
        # The bound, with its mark, with which the way of bounds from one day to another one begins.
        self._heads = [[None] * many for day in range(many)]
        for day in range(many):
            self._most[day][day] = 0

    def copied(self):
        """A closure that goes on by itself."""
        other = Closure(0)
        other._most = [list(row) for row in self._most]
        other._heads = [list(row) for row in self._heads]
        return other

    def most(self, first, second):
        """The greatest number of days by which the first day can be behind the second one; None without one."""
        return self._most[first][second]

    def way(self, first, second):
        """The list of (bound, mark) that leads from a day to another one at the least sum."""
        way = []
        while first != second:
            head = self._heads[first][second]
            way.append(head)
            first = head[0][1]
        return way

    def admits(self, bounds):
        """Whether each one of some bounds, alone, makes no ring."""
        for bound in bounds:
            if self._makes_ring(bound):
                return False
        return True

    def tell(self, bounds, mark):
        """Take bounds in; a ring, as a list of (bound, mark), if they make one: then the closure is of no use."""
        for bound in bounds:
            first, second, most = bound
            if self._makes_ring(bound):
                return [(bound, mark)] + self.way(second, first)
            gap = self._most[first][second]
            if gap is None or most < gap:
                self._take(bound, mark)
        return None

    def least_days(self):
        """The least days that keep all bounds, day 0 being 0."""
        days = [-min([gap for gap in column if gap is not None]) for column in zip(*self._most)]
        return [day - days[0] for day in days]

    def greatest_days(self):
        """The greatest days, none above 0, that keep all bounds, moved so that day 0 is 0."""
        days = [min([gap for gap in row if gap is not None]) for row in self._most]
        return [day - days[0] for day in days]

    def _makes_ring(self, bound):
        """Whether a bound, with all that are in force, makes a ring."""
        first, second, most = bound
        back = self._most[second][first]
        return back is not None and back + most < 0

    def _take(self, bound, mark):
        """Take in a bound that makes no ring."""
        first, second, most = bound
        onward = [(other, rest) for other, rest in enumerate(self._most[second]) if rest is not None]
        for day, row in enumerate(self._most):
            gap = None if row[first] is None else row[first] + most
            if gap is not None and (row[second] is None or gap < row[second]):
                heads = self._heads[day]
                head = (bound, mark) if day == first else heads[first]
                for other, rest in onward:
                    if row[other] is None or gap + rest < row[other]:
                        row[other] = gap + rest
                        heads[other] = head
