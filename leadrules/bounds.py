"""Bounds: how many days one day is behind another at most, from the beginning and by each way of a split."""

from leadrules.basics import is_count, is_day, is_rule
from leadrules.beneath import high, low, torn
from leadrules.common import need_few_pieces
from leadrules.daylists import DayList, own_places, row_places
from leadrules.errors import InvalidPlace
from leadrules.sayings import contrary, need_saying


def bounds_of(saying, book):
    """The bounds of a saying and a book from the beginning, sorted."""
    need_saying(saying)
    need_few_pieces([saying])
    listed = DayList(saying)
    return bounds_in(listed, own_places(listed) + row_places(book), book)


def bounds_in(listed, spots, book):
    """As bounds_of, told the day list and the places."""
    found = {}
    for number in range(1, listed.own):
        for bound in _formula_bounds(listed, number):
            found[bound] = True
    leads = {rule: (low(book, rule), high(book, rule)) for rule in sorted(set([spot[0] for spot in spots]))}
    for spot in spots:
        for bound in _lead_bounds(spot, leads[spot[0]]):
            found[bound] = True
    for rule in torn(book):
        found[(0, 0, high(book, rule) - low(book, rule))] = True
    return sorted(found)


def opened(saying):
    """The contrary of a saying opened: the bounds that it gives, and the ors that wait."""
    need_saying(saying)
    need_few_pieces([saying])
    return opened_by(DayList(saying), contrary(saying))


def opened_by(listed, saying):
    """What a saying without a not ahead of anything but le gives: bounds, and the ors that wait."""
    word = saying[0]
    if word == "le":
        return ([(listed.number(saying[1]), listed.number(saying[2]), 0)], [])
    if word == "not":
        return ([(listed.number(saying[1][2]), listed.number(saying[1][1]), -1)], [])
    if word == "or":
        return ([], [saying])
    bounds, waiting = opened_by(listed, saying[1])
    more, others = opened_by(listed, saying[2])
    return (bounds + more, waiting + others)


def pair_ways(place, other_place):
    """The bounds of the three ways of a pair of places."""
    _need_place(place)
    _need_place(other_place)
    return pair_bounds(place, other_place)


def pair_bounds(spot, other):
    """As pair_ways, of what are known to be places."""
    below = [_asked_bound(spot, other, 1), _served_bound(spot, other)]
    same = [_asked_bound(spot, other, 0), _asked_bound(other, spot, 0)]
    above = [_asked_bound(other, spot, 1), _served_bound(other, spot)]
    return (below, same + [_served_bound(spot, other), _served_bound(other, spot)], above)


def cross_ways(place, other_place):
    """The bounds of the two ways of a cross, the first place's rule being beneath the other's."""
    _need_place(place)
    _need_place(other_place)
    return cross_bounds(place, other_place)


def cross_bounds(spot, other):
    """As cross_ways, of what are known to be places."""
    left = [_asked_bound(spot, other, 0), _served_bound(spot, other)]
    return (left, [_asked_bound(other, spot, 1)])


def part_ways(listed, number):
    """The bounds of the two ways of a late or soon: its day is that of its first, of its second part."""
    if listed.formula(number)[0] == "late":
        return tuple([[(number, part, 0)] for part in listed.parts(number)])
    return tuple([[(part, number, 0)] for part in listed.parts(number)])


def _formula_bounds(listed, number):
    """The bounds of one of the saying's own formulas."""
    formula, parts = listed.formula(number), listed.parts(number)
    word = formula[0]
    if word == "num":
        return [(number, 0, formula[1]), (0, number, -formula[1])]
    if word == "add":
        return [(number, parts[0], formula[1]), (parts[0], number, -formula[1])]
    if word == "late":
        return [(part, number, 0) for part in parts]
    if word == "soon":
        return [(number, part, 0) for part in parts]
    if word in ("by", "til"):
        first, second = listed.helpers[number]
        if word == "by":
            return [(parts[0], first, 0), (second, parts[0], -1)]
        return [(first, parts[0], 0), (parts[0], second, -1)]
    return []


def _lead_bounds(spot, lead):
    """The bounds by which a place keeps its rule's low and high."""
    _, day, shift, answer, answer_shift = spot
    least, most = lead
    bounds = []
    if least is not None:
        bounds.append((day, answer, answer_shift - shift - least))
    if most is not None:
        bounds.append((answer, day, most + shift - answer_shift))
    return bounds


def _asked_bound(spot, other, ahead):
    """The bound that a place's asked day is so many days ahead of another's, or more."""
    return (spot[1], other[1], other[2] - spot[2] - ahead)


def _served_bound(spot, other):
    """The bound that a place's served day is not later than another's."""
    return (spot[3], other[3], other[4] - spot[4])


def _need_place(value):
    """Raise InvalidPlace unless the value is a place."""
    if not isinstance(value, tuple) or len(value) != 5 or not is_rule(value[0]):
        raise InvalidPlace(value)
    if not is_count(value[1]) or not is_day(value[2]) or not is_count(value[3]) or not is_day(value[4]):
        raise InvalidPlace(value)
