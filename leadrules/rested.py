"""Bounds of days some of which have rests: what a length leaves of them; and the legs that no days keep."""

from leadrules.closures import Closure


def brought_down(total, gap, length):
    """The greatest INTEGER that is not above a total and leaves, by a length, the same as a gap."""
    return total - (total - gap) % length


def sum_of_leg(leg, length, rests):
    """The sum of a leg, brought down if both its ends have rests."""
    total = sum([bound[2] for bound in leg])
    first, last = leg[0][0], leg[-1][1]
    if first not in rests or last not in rests:
        return total
    return brought_down(total, rests[first] - rests[last], length)


class RestedClosure:
    """All bounds that follow from some bounds and rests, kept as one by one they come in force.

    Each bound and each rest is told with a mark, a number of bits. Legs that no days keep are told as a tuple: the
    legs, and the sum of the marks of all bounds and rests without which they would be none.
    """

    def __init__(self, many, length):
        self._closure = Closure(many)
        self._many = many
        self._length = length
        # From the days that have rests to these, and to their marks.
        self._rests = {0: 0}
        self._marks = {0: 0}

    def copied(self):
        """A closure that goes on by itself."""
        other = RestedClosure(0, self._length)
        other._closure = self._closure.copied()
        other._many = self._many
        other._rests = dict(self._rests)
        other._marks = dict(self._marks)
        return other

    def has_rest(self, day):
        """Whether a day has a rest."""
        return day in self._rests

    def take_rest(self, day, rest, mark):
        """Take in that a day has a rest; what follows from it is looked at when bounds are told next."""
        self._rests[day] = rest
        self._marks[day] = mark

    def admits(self, bounds):
        """Whether each one of some bounds, alone, makes no ring."""
        return self._closure.admits(bounds)

    def admits_rest(self, day, rest):
        """Whether a day may have a rest, as far as each other day that has one lets it."""
        for other, other_rest in self._rests.items():
            onward, back = self._closure.most(day, other), self._closure.most(other, day)
            if onward is not None and back is not None:
                gap = rest - other_rest
                if brought_down(onward, gap, self._length) + brought_down(back, -gap, self._length) < 0:
                    return False
        return True

    def tell(self, bounds, mark):
        """Take bounds in; legs, if they make some: then the closure is of no use. Else None."""
        ring = self._closure.tell(bounds, mark)
        if ring is None:
            ring = self._bring_down()
        return None if ring is None else self._legs_of(ring)

    def least_days(self):
        """Days that keep all bounds and have all rests, day 0 being 0, each as early as those ahead let it be."""
        return self._some_days(True)

    def greatest_days(self):
        """Such days, each as late as those ahead let it be."""
        return self._some_days(False)

    def _bring_down(self):
        """Bring down all differences of days that have rests; a ring, if one comes of it."""
        changed = True
        while changed:
            changed = False
            for first in self._rests:
                for last in self._rests:
                    if self._is_above(first, last):
                        changed = True
                        ring = self._tell_legs(self._cut(self._closure.way(first, last)))
                        if ring is not None:
                            return ring
        return None

    def _is_above(self, first, last):
        """Whether the difference of two days that have rests can be less than the bounds between them tell."""
        most = self._closure.most(first, last)
        return most is not None and (most - self._gap(first, last)) % self._length != 0

    def _gap(self, first, last):
        """The difference of the rests of two days."""
        return self._rests[first] - self._rests[last]

    def _cut(self, way):
        """The legs of a way of (bound, mark) that begins at a day with a rest."""
        legs = []
        for told in way:
            if told[0][0] in self._rests:
                legs.append([])
            legs[-1].append(told)
        return legs

    def _tell_legs(self, legs):
        """Tell the closure each leg that is brought down as a bound; a ring, if one comes of it."""
        for leg in legs:
            total = self._sum_of(leg)
            if total < sum([told[0][2] for told in leg]):
                # The leg itself is the mark by which it is found again in a ring.
                ring = self._closure.tell([(leg[0][0][0], leg[-1][0][1], total)], leg)
                if ring is not None:
                    return ring
        return None

    def _sum_of(self, leg):
        """The sum of a leg of (bound, mark), brought down if both ends have rests."""
        return sum_of_leg([told[0] for told in leg], self._length, self._rests)

    def _legs_of(self, ring):
        """The legs, and the marks that they need, of a ring of (bound, mark)."""
        starts = [place for place, told in enumerate(ring) if told[0][0] in self._rests]
        legs = [ring]
        if starts:
            cut = self._cut(ring[starts[0]:] + ring[:starts[0]])
            # A bound that is a leg brought down stands there alone: both its ends have rests.
            legs = self._joined([leg[0][1] if isinstance(leg[0][1], list) else leg for leg in cut])
        needs = 0
        for leg in legs:
            if len(legs) > 1:
                needs = needs | self._marks[leg[0][0][0]]
            for _, mark in leg:
                needs = needs | mark
        return ([[bound for bound, _ in leg] for leg in legs], needs)

    def _joined(self, legs):
        """Legs of one ring, joined where their sums stay below 0 without a rest between them."""
        for _ in range(len(legs)):
            # Each turn looks at the joint of the last leg and the first one, then moves on by a leg.
            if len(legs) > 1:
                fewer = [legs[-1] + legs[0]] + legs[1:-1]
                legs = fewer if sum([self._sum_of(leg) for leg in fewer]) < 0 else legs
                legs = legs[1:] + legs[:1]
        return legs

    def _some_days(self, low):
        """Days that keep all bounds and have all rests."""
        days = {}
        # As all that follows from the bounds is in force, each day can be chosen behind those with rests.
        for day in sorted(self._rests) + [day for day in range(self._many) if day not in self._rests]:
            days[day] = self._day_between(day, days, low)
        return [days[day] for day in range(self._many)]

    def _day_between(self, day, days, low):
        """A day that the bounds between it and the known ones admit."""
        leasts = [(known, self._closure.most(other, day)) for other, known in days.items()]
        mosts = [(known, self._closure.most(day, other)) for other, known in days.items()]
        least = max([known - gap for known, gap in leasts if gap is not None], default=None)
        most = min([known + gap for known, gap in mosts if gap is not None], default=None)
        if least is None and most is None:
            return self._rests.get(day, 0)
        if most is None or (low and least is not None):
            return least
        return most
