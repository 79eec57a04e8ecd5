"""Commands: what a desk can be told, by its words alone."""

from leadrules.orders import DEEDS, order_of


def is_command(value):
    """Whether a value is a command."""
    return order_of(value) is not None


def is_deed(value):
    """Whether a value is a command that is a deed."""
    order = order_of(value)
    return order is not None and order[0] in DEEDS
