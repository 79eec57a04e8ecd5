"""Sayings beside books that hidden worlds keep: drawn, each time the same."""

import random

from leadrules.books import Book
from leadrules.pictures import keeps
from tests import drawn, slow


def kept_promises(draw, rules, world, many):
    """So many promises at most that a world keeps."""
    found = []
    for _ in range(3 * many):
        promise = drawn.promise(draw, rules)
        if len(found) < many and keeps(world, Book([], [promise])):
            found.append(promise)
    return found


def kept_log(draw, rules, lists, many, spread=6):
    """So many rows of a world of lists of days."""
    found = []
    for _ in range(many):
        rule, day = draw.choice(rules), draw.randint(-spread, spread)
        found.append((rule, day, slow.on(lists[rule], day)))
    return found


def kept_books(seed, many, rules="ab", rows=3, promises=3):
    """So many (draw, lists, log, promises): a world of lists of days, and what it keeps."""
    draw = random.Random(seed)
    for _ in range(many):
        lists = drawn.lists(draw, rules)
        world = drawn.world(lists)
        log = kept_log(draw, rules, lists, draw.randint(0, rows))
        yield draw, lists, log, kept_promises(draw, rules, world, draw.randint(0, promises))


def pieces(told):
    """How many pieces there are in what is told."""
    return len(slow.pieces(told))
