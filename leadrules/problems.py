"""A saying and a book, as far as trees and pictures need them: days, places, bounds, and what can be split."""

from leadrules.beneath import quick_pairs
from leadrules.bounds import bounds_in, cross_bounds, opened_by, pair_bounds, part_ways
from leadrules.daylists import DayList, own_places, row_places
from leadrules.sayings import contrary_of


class Problem:
    """The day list, the places and the bounds from the beginning of a saying and a book.

    listed: the day list; spots: the places, those of the log behind spots_of_saying others; bounds: from the
    beginning; given, waiting: the bounds and the ors that the contrary of the saying gives.
    """

    def __init__(self, saying, book):
        self.listed = DayList(saying)
        self.spots = own_places(self.listed)
        self.spots_of_saying = len(self.spots)
        self.spots = self.spots + row_places(book)
        self._hold_in_force(bounds_in(self.listed, self.spots, book))
        self.given, self.waiting = opened_by(self.listed, contrary_of(saying))
        self._beneath = {pair: True for pair in quick_pairs(book)}

    def is_given(self, bound):
        """Whether a bound is in force from the beginning, the contrary not looked at."""
        return bound in self._in_force

    def splits(self):
        """The list of (head, ways) of all splits but those of ors: what a node begins with, and its bounds."""
        found = []
        for number in range(self.listed.own):
            word = self.listed.formula(number)[0]
            if word in ("late", "soon"):
                found.append(((word, number), part_ways(self.listed, number)))
        crosses, pairs = [], []
        for place in range(len(self.spots)):
            for other in range(len(self.spots)):
                if self._is_cross(place, other):
                    crosses.append((("cross", place, other), cross_bounds(self.spots[place], self.spots[other])))
                elif place < other and self.spots[place][0] == self.spots[other][0]:
                    pairs.append((("pair", place, other), pair_bounds(self.spots[place], self.spots[other])))
        return found + crosses + pairs

    def ways(self, head, waiting):
        """The ways of what a node begins with, each (bounds, waiting); None if there is no such split."""
        if head[0] == "or":
            return self.or_ways(waiting) if waiting else None
        ways = self._bounds_of_ways(head)
        return None if ways is None else [(bounds, waiting) for bounds in ways]

    def or_ways(self, waiting):
        """The two ways of the first or that waits, each (bounds, waiting)."""
        found = []
        for part in waiting[0][1:]:
            bounds, others = opened_by(self.listed, part)
            found.append((bounds, waiting[1:] + others))
        return found

    def holds(self, saying, days):
        """Whether a saying of this day list holds with days for the day numbers."""
        word = saying[0]
        if word == "le":
            return days[self.listed.number(saying[1])] <= days[self.listed.number(saying[2])]
        if word == "not":
            return not self.holds(saying[1], days)
        if word == "and":
            return self.holds(saying[1], days) and self.holds(saying[2], days)
        return self.holds(saying[1], days) or self.holds(saying[2], days)

    def picture(self, days):
        """The picture that days for the day numbers tell."""
        named, asked = {}, {}
        for number in range(self.listed.own):
            formula = self.listed.formula(number)
            if formula[0] == "day":
                named[formula[1]] = days[number]
        for rule, day, shift, answer, answer_shift in self.spots[:self.spots_of_saying]:
            served = asked.setdefault(rule, {})
            served[days[day] + shift] = days[answer] + answer_shift
        answers = {rule: [(at, asked[rule][at]) for at in sorted(asked[rule])] for rule in sorted(asked)}
        return ({name: named[name] for name in sorted(named)}, answers)

    def _hold_in_force(self, bounds):
        """Keep bounds as those from the beginning: sorted, none twice."""
        self._in_force = {bound: True for bound in bounds}
        self.bounds = sorted(self._in_force)

    def _is_cross(self, place, other):
        """Whether two places are of unlike rules, that of the first one beneath that of the other."""
        return (self.spots[place][0], self.spots[other][0]) in self._beneath

    def _bounds_of_ways(self, head):
        """The bounds of the ways of a node that is no or; None if there is no such split."""
        if head[0] in ("late", "soon"):
            number = head[1]
            if number >= self.listed.own or self.listed.formula(number)[0] != head[0]:
                return None
            return part_ways(self.listed, number)
        place, other = head[1:]
        if max(place, other) >= len(self.spots):
            return None
        spot, other_spot = self.spots[place], self.spots[other]
        if head[0] == "cross":
            return cross_bounds(spot, other_spot) if self._is_cross(place, other) else None
        return pair_bounds(spot, other_spot) if place < other and spot[0] == other_spot[0] else None
