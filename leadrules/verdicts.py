"""Whether sayings hold for all rules and days that keep a book, and pictures that break them."""

from leadrules.common import need_few_pieces
from leadrules.sayings import need_saying
from leadrules.searches import found_out


def verdict(saying, book):
    """Whether a saying holds for all under a book ("all"), or is broken ("breaks")."""
    return "all" if broken(saying, book) is None else "breaks"


def broken(saying, book):
    """A picture that breaks a saying beside a book; None where it holds for all."""
    need_saying(saying)
    need_few_pieces([saying])
    return found_out(saying, book)[1]
