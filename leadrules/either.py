"""By how many days one formula is never later than another one, or a third one than a fourth."""

from leadrules.basics import is_count
from leadrules.common import need_count, need_few_pieces
from leadrules.errors import InvalidPair, TooMany
from leadrules.farthest import need_formulas, slack_saying_of
from leadrules.pictures import need_kept
from leadrules.searches import found_out

MOST_DAYS = 12


def either_saying(first, second, third, fourth, pair):
    """The saying that the first formula is in time by the pair's first number, or the third by its second one."""
    need_formulas([first, second, third, fourth])
    if not isinstance(pair, tuple) or len(pair) != 2 or not is_count(pair[0]) or not is_count(pair[1]):
        raise InvalidPair(pair)
    saying = _saying_of([first, second, third, fourth], pair)
    need_few_pieces([saying])
    return saying


def either_slack(first, second, third, fourth, book, most):
    """The least pairs up to a count, their first numbers rising."""
    heights = _heights([first, second, third, fourth], book, most)
    pairs = []
    for number in range(most + 1):
        ahead = heights[number - 1][0] if number > 0 else most
        if heights[number][0] < ahead:
            pairs.append((number, heights[number][0] + 1))
    return pairs


def either_breaks(first, second, third, fourth, book, most):
    """The dict from the greatest tuples up to a count that are no pairs to pictures that break their sayings."""
    heights = _heights([first, second, third, fourth], book, most)
    breaks = {}
    for number in range(most + 1):
        height, picture = heights[number]
        behind = heights[number + 1][0] if number < most else -1
        if height > behind:
            breaks[(number, height)] = picture
    return breaks


def _saying_of(formulas, pair):
    """The saying of four formulas and a pair."""
    first, second, third, fourth = formulas
    return ("or", slack_saying_of(first, second, pair[0]), slack_saying_of(third, fourth, pair[1]))


def _heights(formulas, book, most):
    """For each first number up to most the greatest second one with which it is no pair, -1 without any, and a picture.

    These fall as the first numbers rise, so that each tuple is looked at once along the way.
    """
    need_formulas(formulas)
    need_count(most)
    need_kept(book)
    need_few_pieces([_saying_of(formulas, (0, 0))])
    if most > MOST_DAYS:
        raise TooMany("most", MOST_DAYS)
    heights = []
    height = most
    for number in range(most + 1):
        picture = None
        while height >= 0 and picture is None:
            picture = found_out(_saying_of(formulas, (number, height)), book)[1]
            if picture is None:
                height -= 1
        heights.append((height, picture))
    return heights
