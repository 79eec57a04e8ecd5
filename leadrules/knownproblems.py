"""A saying, a book and calendars, as far as known trees and known breaks need them."""

from leadrules.calendars import length_of
from leadrules.problems import Problem


class KnownProblem(Problem):
    """A Problem beside calendars: with more bounds from the beginning, and days that are read.

    many_rests: the length of the calendars; read: the sorted list of the numbers of the read days.
    """

    def __init__(self, saying, book, calendars):
        super().__init__(saying, book)
        self.many_rests = length_of(calendars)
        self._calendars = dict(calendars)
        # From each read day to the (rule, shift, answer) of its places of rules of the calendars.
        self._readings = {}
        for rule, day, shift, answer, _ in self.spots[:self.spots_of_saying]:
            if rule in calendars:
                self._readings.setdefault(day, []).append((rule, shift, answer))
        self.read = sorted(self._readings)
        self._hold_in_force(self.bounds + self._more_bounds())

    def rest_bounds(self, day, rest):
        """The sorted list of the bounds that a rest of a read day tells."""
        bounds = {}
        for rule, shift, answer in self._readings[day]:
            served = self._calendars[rule].on(rest + shift)
            bounds[(answer, day, served - rest)] = True
            bounds[(day, answer, rest - served)] = True
        return sorted(bounds)

    def is_served(self, day, days):
        """Whether days for the day numbers are, for all places of a read day, as the tables serve."""
        return all([self._calendars[rule].on(days[day] + shift) == days[answer]
                    for rule, shift, answer in self._readings[day]])

    def picture(self, days):
        """The picture that days for the day numbers tell: without answers of rules of the calendars."""
        named, answers = super().picture(days)
        return (named, {rule: answers[rule] for rule in answers if rule not in self._calendars})

    def _more_bounds(self):
        """The bounds that the tables' leads tell of all their places, and those of the rest of day 0."""
        bounds = []
        for day, readings in self._readings.items():
            for rule, shift, answer in readings:
                least, most = self._calendars[rule].leads()
                bounds.append((answer, day, shift + most))
                bounds.append((day, answer, -shift - least))
        return bounds + (self.rest_bounds(0, 0) if 0 in self._readings else [])
