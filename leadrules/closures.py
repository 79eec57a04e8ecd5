"""All bounds that follow from some, kept as one by one they come in force."""

# More than any bound that comes to be reckoned with: no bound at all.
FAR = 1000000000000000000000000000000


class Closure:
    """How many days each day is behind each other one at most, and by which bounds.

    Each bound that is told is kept with a mark, whatever this is, and the mark is told with it in a ring.
    """

    def __init__(self, many):
        self._most = [[FAR] * many for day in range(many)]
        # The bound, with its mark, with which the way of bounds from one day to another one begins.
        self._heads = [[None] * many for day in range(many)]
        for day in range(many):
            self._most[day][day] = 0

    def copied(self):
        """A closure that goes on by itself."""
        other = Closure(0)
        other._most = [list(row) for row in self._most]
        other._heads = [list(row) for row in self._heads]
        return other

    def most(self, first, second):
        """The greatest number of days by which the first day can be behind the second one; None without one."""
        gap = self._most[first][second]
        return gap if gap < FAR else None

    def admits(self, bounds):
        """Whether each one of some bounds, alone, makes no ring."""
        for first, second, most in bounds:
            if self._most[second][first] + most < 0:
                return False
        return True

    def tell(self, bounds, mark):
        """Take bounds in; a ring, as a list of (bound, mark), if they make one: then the closure is of no use."""
        for bound in bounds:
            first, second, most = bound
            if self._most[first][second] > most:
                if self._most[second][first] + most < 0:
                    return [(bound, mark)] + self._way(second, first)
                self._take(bound, mark)
        return None

    def least_days(self):
        """The least days that keep all bounds, day 0 being 0."""
        days = [-min(column) for column in zip(*self._most)]
        return [day - days[0] for day in days]

    def greatest_days(self):
        """The greatest days, none above 0, that keep all bounds, moved so that day 0 is 0."""
        days = [min(row) for row in self._most]
        return [day - days[0] for day in days]

    def _take(self, bound, mark):
        """Take in a bound that makes no ring."""
        first, second, most = bound
        onward = [(day, gap) for day, gap in enumerate(self._most[second]) if gap < FAR]
        for day, row in enumerate(self._most):
            gap = row[first] + most
            if row[first] < FAR and gap < row[second]:
                heads = self._heads[day]
                head = (bound, mark) if day == first else heads[first]
                for other, rest in onward:
                    if gap + rest < row[other]:
                        row[other] = gap + rest
                        heads[other] = head

    def _way(self, first, second):
        """The list of (bound, mark) that leads from a day to another one at the least sum."""
        way = []
        while first != second:
            head = self._heads[first][second]
            way.append(head)
            first = head[0][1]
        return way
